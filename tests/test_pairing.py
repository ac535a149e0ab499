"""The pairing and the bound: points [14] and [15], and the interface's part kerb/pairing.py."""

import copy
import itertools
import unittest

from kerb.pairing import bound, pairing
from kerb.reach import served
from kerb.towns import fits, sides_of
from tests.samples import (BANS, EMPTY, STREETS, great_town, lane_town, lengths_of, looped_town, numbered_town,
                           prices_by_words, served_by_words)

TOWN = ("a", STREETS, ())
BANNED = ("a", STREETS, BANS)
GREAT = 10 ** 60 - 1


# The least price of all pairings, by trying all.
def least_of_all_pairings(town):
    prices = prices_by_words(town)
    sides = served_by_words(town)
    return min(sum(prices[pair] for pair in zip(sides, behind)) for behind in itertools.permutations(sides))


class Pairings(unittest.TestCase):
    # By the words of point [14]; told is the pairing's price.
    def shows(self, town):
        self.assertIs(fits(town), True, town)
        sides = served_by_words(town)
        prices = prices_by_words(town)
        told = pairing(town)
        self.assertIs(told.__class__, tuple)
        self.assertEqual([part.__class__ for part in told], [list, list, list])
        behind, up, down = told
        self.assertEqual([len(part) for part in told], [len(sides)] * 3, town)
        self.assertEqual(sorted(behind), sorted(sides), town)
        for number in up + down:
            self.assertIs(number.__class__, int)
        for k, one in enumerate(sides):
            for m, other in enumerate(sides):
                self.assertLessEqual(up[k] + down[m], prices[one, other], (town, one, other))
                if behind[k] == other:
                    self.assertEqual(up[k] + down[m], prices[one, other], (town, one, other))
        return sum(prices[one, other] for one, other in zip(sides, behind))

    # By the words of point [15].
    def bounds(self, town):
        price = self.shows(town)
        lengths = lengths_of(town)
        self.assertIs(bound(town).__class__, int)
        self.assertEqual(bound(town), sum(lengths[side] for side in served_by_words(town)) + price, town)
        return price


class Pairing(Pairings):
    def test_no_served_sides(self):
        for town in (EMPTY, ("far", STREETS, ()), ("a", (("s", "a", "b", 1, 1),), ()),
                     ("a", (("s", "a", "b", 5, 2),), (("s>", "s<"),))):
            self.assertEqual(pairing(town), ([], [], []))
            self.assertEqual(bound(town), 0)
            self.assertIs(bound(town).__class__, int)

    def test_one_served_side_is_paired_with_itself(self):
        town = ("a", (("o", "a", "a", 7, 1),), ())
        self.assertEqual(pairing(town)[0], ["o>"])
        self.assertEqual(self.bounds(town), 0)
        self.assertEqual(bound(town), 7)

    def test_one_served_side_beside_others_that_are_not(self):
        town = ("a", (("s", "a", "b", 3, 1), ("o", "a", "a", 7, 1), ("t", "c", "a", 3, 1)), ())
        self.assertEqual(pairing(town)[0], ["o>"])
        self.assertEqual(self.bounds(town), 0)
        self.assertEqual(bound(town), 7)

    def test_a_street(self):
        town = ("a", (("s", "a", "b", 5, 2),), ())
        self.assertEqual(pairing(town)[0], ["s<", "s>"])
        self.assertEqual(self.bounds(town), 0)
        self.assertEqual(bound(town), 10)

    def test_a_ring_of_lanes(self):
        town = ("a", (("s", "a", "b", 1, 1), ("t", "b", "c", 2, 1), ("u", "c", "a", 4, 1)), ())
        self.assertEqual(pairing(town)[0], ["t>", "u>", "s>"])
        self.assertEqual(self.bounds(town), 0)
        self.assertEqual(bound(town), 7)

    def test_a_lane_that_is_gone_along_twice(self):
        # Two lanes lead out, one leads home, and has to be gone along for each of them.
        town = ("a", (("one", "a", "b", 1, 1), ("two", "a", "b", 2, 1), ("home", "b", "a", 10, 1)), ())
        self.assertEqual(self.bounds(town), 10)
        self.assertEqual(bound(town), 23)
        town = ("a", town[1] + (("three", "a", "b", 3, 1),), ())
        self.assertEqual(self.bounds(town), 20)
        self.assertEqual(bound(town), 36)

    def test_the_shorter_way_back_is_taken(self):
        streets = (("one", "a", "b", 1, 1), ("two", "a", "b", 2, 1), ("home", "b", "a", 10, 1),
                   ("back", "b", "a", 4, 1), ("three", "a", "b", 2, 1))
        self.assertEqual(self.bounds(("a", streets, ())), 4)
        self.assertEqual(bound(("a", streets, ())), 23)

    def test_a_sample_town(self):
        self.assertEqual(self.bounds(TOWN), 2)
        self.assertEqual(bound(TOWN), sum([5, 5, 7, 2, 2, 3, 3, 4]) + 2)

    def test_bans_raise_the_price(self):
        # With the bans one comes to the loop o and away from it by the loop p alone, which is gone along twice.
        streets = (("in", "a", "b", 1, 1), ("out", "b", "a", 2, 1), ("o", "b", "b", 7, 1), ("p", "b", "b", 3, 1))
        bans = (("in>", "o>"), ("in>", "out>"), ("o>", "out>"), ("o>", "o>"))
        self.assertEqual(self.bounds(("a", streets, ())), 0)
        self.assertEqual(self.bounds(("a", streets, bans)), 3)
        self.assertEqual(bound(("a", streets, bans)), 16)
        for k in range(4):
            self.assertEqual(self.bounds(("a", streets, bans[:k] + bans[k + 1:])), 0)

    def test_sides_that_are_not_served_stand_in_no_list(self):
        streets = (("far", "x", "y", 1, 2), ("s", "a", "b", 5, 2), ("away", "b", "c", 1, 1), ("t", "b", "d", 6, 2))
        for town in (("a", streets, ()), ("a", tuple(reversed(streets)), ())):
            self.assertEqual(sorted(pairing(town)[0]), ["s<", "s>", "t<", "t>"])
            self.assertEqual(self.bounds(town), 0)
            self.assertEqual(bound(town), 22)

    def test_numbers_below_nought(self):
        below = [number for k in range(200) for number in sum(pairing(numbered_town(k))[1:], []) if number < 0]
        self.assertGreater(len(below), 0)

    def test_no_pairing_costs_less(self):
        seen = 0
        for number in range(150):
            town = lane_town(number)
            price = self.bounds(town)
            self.assertEqual(price, least_of_all_pairings(town), town)
            seen += price > 0
        self.assertGreater(seen, 80)
        for number in range(150):
            town = numbered_town(number, most_streets=5)
            if len(served_by_words(town)) <= 6:
                self.assertEqual(self.bounds(town), least_of_all_pairings(town), town)

    def test_many_towns(self):
        seen = {"price": 0, "bans": 0, "unserved": 0}
        for number in range(400):
            town = numbered_town(number)
            price = self.bounds(town)
            if price > 0:
                seen["price"] += 1
                seen["bans"] += town[2] != ()
                seen["unserved"] += served(town) != sides_of(town)
        for kind in seen:
            self.assertGreater(seen[kind], 20, kind)

    def test_towns_of_loops_and_bans(self):
        for number in range(100):
            self.assertEqual(self.bounds(looped_town(number)), 0)

    def test_towns_of_many_lanes(self):
        for number in range(60):
            self.bounds(lane_town(number, most_corners=9, most_across=17, most_bans=20, most_figures=60))

    def test_great_lengths(self):
        town = ("a", (("one", "a", "b", GREAT, 1), ("two", "a", "b", GREAT - 1, 1), ("home", "b", "a", GREAT, 1)), ())
        self.assertEqual(self.bounds(town), GREAT)
        self.assertEqual(bound(town), 4 * GREAT - 1)
        for number in range(40):
            self.bounds(numbered_town(number, most_figures=60))

    def test_towns_of_thirty_streets_and_twenty_bans(self):
        for number, many_corners in ((0, 1), (1, 3), (2, 8), (3, 12), (4, 20)):
            self.bounds(great_town(number, many_corners))

    def test_thirty_lanes(self):
        names = [chr(ord("a") + k // 6) + chr(ord("a") + k % 6) for k in range(30)]
        corners = ["c" + name for name in names]
        ring = tuple((name, corners[k], corners[(k + 1) % 30], GREAT - k, 1) for k, name in enumerate(names))
        self.assertEqual(self.bounds(("caa", ring, ())), 0)
        # From each corner of a chain a lane leads back to the yard, so the chain's first side is gone along for each.
        chain = tuple((name, corners[k], corners[k + 1], 1, 1) for k, name in enumerate(names[:15]))
        backs = tuple((name, corners[k + 1], "caa", 1, 1) for k, name in enumerate(names[15:]))
        self.assertEqual(self.bounds(("caa", chain + backs, ())), sum(range(15)))


class Keeping(Pairings):
    def test_a_told_list_is_the_askers_own(self):
        for town in (TOWN, BANNED):
            kept = bound(town)
            for part in (0, 1, 2):
                told = pairing(town)[part]
                told[0] = "changed"
                told.append("changed")
                told.clear()
                self.bounds(town)
            self.assertEqual(bound(town), kept)
        first = pairing(TOWN)
        for one, other in zip(first, pairing(TOWN)):
            self.assertIsNot(one, other)
        self.assertIsNot(first[1], first[2])
        none = pairing(EMPTY)
        none[0].append("changed")
        self.assertEqual(none[1:], ([], []))
        self.assertEqual(pairing(EMPTY), ([], [], []))

    def test_a_town_handed_in_stays_as_it_is(self):
        for town in (TOWN, BANNED, EMPTY):
            kept = copy.deepcopy(town)
            self.bounds(town)
            self.assertEqual(town, kept)


if __name__ == "__main__":
    unittest.main()
