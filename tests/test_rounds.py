"""Rings, parts and the round: points [16] to [19], and the interface's part kerb/rounds.py."""

import copy
import itertools
import random
import time
import unittest

from kerb.pairing import bound
from kerb.reach import is_round, is_walk, length_all, served
from kerb.rounds import can_exchange, parts, round_of
from kerb.towns import fits, sides_of
from tests.samples import (BANS, EMPTY, STREETS, all_allowed, great_town, lane_town, looped_town, numbered_town,
                           prices_by_words, served_by_words)

TOWN = ("a", STREETS, ())
BANNED = ("a", STREETS, BANS)

# One comes to the loop o and away from it by the loop p alone; each loop may be a ring by itself, so the bound asks for
# no side twice, but no ring goes along all sides once.
TWO_PARTS = (
    "a",
    (("main", "a", "b", 5, 2), ("o", "b", "b", 7, 1), ("p", "b", "b", 3, 1)),
    (("main>", "o>"), ("o>", "main<")),
)

# Loops in one corner off the yard's, of which some turns are banned.
LOOPS = ("a", (("l", "b", "b", 1, 1), ("m", "b", "b", 2, 1), ("n", "b", "b", 4, 2)), ())


# Ten such corners as in TWO_PARTS: thirty streets and twenty bans.
def town_of_eleven_parts():
    streets = []
    bans = []
    for k in range(10):
        sign = chr(ord("a") + k)
        streets += [("m" + sign, "a", "c" + sign, 10 ** 59 + k, 2), ("o" + sign, "c" + sign, "c" + sign, k + 1, 1),
                    ("p" + sign, "c" + sign, "c" + sign, 10 ** 60 - k - 1, 1)]
        bans += [("m" + sign + ">", "o" + sign + ">"), ("o" + sign + ">", "m" + sign + "<")]
    return ("a", tuple(streets), tuple(bans))


# The neighbours of a ring, by the words of point [16].
def neighbours_of(ring):
    return list(zip(ring, ring[1:])) + [(ring[-1], ring[0])]


def exchanged_by_words(town, ring, other):
    turns = all_allowed(town)
    return any((a, d) in turns and (c, b) in turns
               for a, b in set(neighbours_of(ring)) for c, d in set(neighbours_of(other)))


def is_ring(town, ring):
    return len(ring) > 0 and all_allowed(town).issuperset(neighbours_of(ring))


# Rings of a town without the same side twice, up to a length.
def small_rings(town, most):
    sides = sides_of(town)
    return [list(ring) for many in range(1, most + 1) for ring in itertools.permutations(sides, many)
            if is_ring(town, ring)]


class Exchange(unittest.TestCase):
    def exchanges(self, town, ring, other, told):
        self.assertIs(is_ring(town, ring) and is_ring(town, other), True, (ring, other))
        self.assertIs(can_exchange(town, ring, other), told, (town, ring, other))
        self.assertIs(can_exchange(town, other, ring), told, (town, ring, other))

    def with_bans(self, *bans):
        town = (LOOPS[0], LOOPS[1], bans)
        self.assertIs(fits(town), True)
        return town

    def test_rings_of_one_side(self):
        self.exchanges(LOOPS, ["l>"], ["m>"], True)
        self.exchanges(LOOPS, ["n>"], ["n<"], True)

    def test_rings_of_one_side_with_bans(self):
        self.exchanges(self.with_bans(("l>", "m>")), ["l>"], ["m>"], False)
        self.exchanges(self.with_bans(("m>", "l>")), ["l>"], ["m>"], False)
        self.exchanges(self.with_bans(("l>", "n>"), ("n>", "m>")), ["l>"], ["m>"], True)
        self.exchanges(self.with_bans(("n>", "n<")), ["n>"], ["n<"], False)

    def test_a_ring_and_itself(self):
        for ring in (["l>"], ["l>", "m>"], ["n>", "n<", "l>"]):
            self.exchanges(LOOPS, ring, ring, True)
            self.exchanges(LOOPS, ring, list(ring), True)

    def test_rings_with_a_side_in_common(self):
        town = self.with_bans(("l>", "n>"), ("n>", "l>"), ("l>", "l>"), ("n>", "n>"))
        self.exchanges(town, ["l>", "m>"], ["m>", "n>"], True)

    def test_rings_without_a_corner_in_common(self):
        town = ("a", (("l", "b", "b", 1, 1), ("m", "c", "c", 2, 1), ("s", "b", "c", 1, 2)), ())
        self.exchanges(town, ["l>"], ["m>"], False)
        self.exchanges(town, ["l>"], ["s>", "s<"], True)
        self.exchanges(town, ["m>"], ["s>", "s<"], True)

    def test_one_may_turn_from_the_one_into_the_other_alone(self):
        # Each ring may be left for the other one, but not at the same neighbours.
        streets = (("s", "x", "y", 1, 2), ("t", "x", "y", 1, 2))
        self.exchanges(("a", streets, ()), ["s>", "s<"], ["t>", "t<"], True)
        self.exchanges(("a", streets, (("s>", "t<"),)), ["s>", "s<"], ["t>", "t<"], True)
        self.exchanges(("a", streets, (("s>", "t<"), ("t<", "s>"))), ["s>", "s<"], ["t>", "t<"], False)
        self.exchanges(("a", streets, (("s>", "t<"), ("s<", "t>"))), ["s>", "s<"], ["t>", "t<"], False)
        self.exchanges(("a", streets, (("t>", "s<"), ("s<", "t>"))), ["s>", "s<"], ["t>", "t<"], False)
        self.exchanges(("a", streets, (("t>", "s<"), ("s>", "t<"))), ["s>", "s<"], ["t>", "t<"], True)

    def test_the_last_and_the_first_are_neighbours(self):
        # Of the one ring only the turn from its last side into its first one lies in the other ring's corner.
        streets = (("s", "x", "y", 1, 1), ("t", "y", "x", 1, 1), ("l", "x", "x", 1, 1))
        town = ("a", streets, ())
        self.exchanges(town, ["s>", "t>"], ["l>"], True)
        self.exchanges(town, ["t>", "s>"], ["l>"], True)
        self.exchanges(("a", streets, (("t>", "l>"),)), ["s>", "t>"], ["l>"], False)
        self.exchanges(("a", streets, (("l>", "s>"),)), ["s>", "t>"], ["l>"], False)

    def test_the_same_ring_begun_at_another_side(self):
        chance = random.Random(16)
        for bans in ((), (("l>", "m>"), ("m>", "n>")), (("l>", "m>"), ("m>", "n<"), ("n<", "l>"), ("n>", "l>"))):
            town = self.with_bans(*bans)
            rings = small_rings(town, 3)
            for k in range(100):
                ring = chance.choice(rings)
                other = chance.choice(rings)
                told = can_exchange(town, ring, other)
                for m in range(len(ring)):
                    for n in range(len(other)):
                        self.exchanges(town, ring[m:] + ring[:m], other[n:] + other[:n], told)

    def test_held_against_the_words(self):
        chance = random.Random(161)
        seen = {True: 0, False: 0}
        for number in range(60):
            town = looped_town(number, most_loops=3)
            rings = small_rings(town, 4)
            for k in range(60):
                ring = chance.choice(rings)
                other = chance.choice(rings)
                told = exchanged_by_words(town, ring, other)
                self.exchanges(town, ring, other, told)
                seen[told] += 1
        self.assertGreater(seen[True], 200)
        self.assertGreater(seen[False], 200)

    def test_long_rings(self):
        town = self.with_bans(("l>", "n>"), ("m>", "n>"), ("n<", "l>"), ("n<", "m>"), ("n>", "l>"), ("n>", "m>"))
        began = time.monotonic()
        self.exchanges(town, ["l>", "m>"] * 450, ["n>"] * 900, False)
        self.exchanges(town, ["l>", "m>"] * 450, ["n>"] * 899 + ["n<"], False)
        self.exchanges(LOOPS, ["l>", "m>"] * 450, ["n>"] * 900, True)
        self.assertLess(time.monotonic() - began, 20)

    def test_a_neighbour_late_in_a_long_ring(self):
        town = self.with_bans(("l>", "n>"), ("n>", "l>"))
        self.exchanges(town, ["l>"] * 900, ["n>"] * 900, False)
        self.exchanges(town, ["l>"] * 899 + ["m>"], ["n>"] * 900, False)
        self.exchanges(town, ["l>"] * 898 + ["m>", "m>"], ["n>"] * 900, True)
        self.exchanges(town, ["l>"] * 400 + ["m>", "m>"] + ["l>"] * 498, ["n>"] * 900, True)

    def test_what_is_handed_in_stays_as_it_is(self):
        one = ["l>", "m>"]
        other = ["n>", "n<"]
        can_exchange(LOOPS, one, other)
        self.assertEqual(one, ["l>", "m>"])
        self.assertEqual(other, ["n>", "n<"])


class Telling(unittest.TestCase):
    # By the words of point [17].
    def parts_fit(self, town, rings):
        self.assertIs(rings.__class__, list)
        for ring in rings:
            self.assertIs(ring.__class__, list)
            self.assertIs(is_ring(town, ring), True, (town, ring))
        sides = served_by_words(town)
        self.assertEqual({side for ring in rings for side in ring}, set(sides), town)
        self.assertEqual(sum(length_all(town, ring) for ring in rings), bound(town), town)
        for one, other in itertools.combinations(rings, 2):
            self.assertIs(exchanged_by_words(town, one, other), False, (town, one, other))
            self.assertIs(can_exchange(town, one, other), False, (town, one, other))
        if not sides:
            self.assertEqual(rings, [])
        elif not town[2]:
            self.assertEqual(len(rings), 1, town)

    # By the words of point [19]; told is how many parts there are.
    def round_fits(self, town):
        self.assertIs(fits(town), True, town)
        self.parts_fit(town, parts(town))
        told = round_of(town)
        self.assertIs(told.__class__, tuple)
        self.assertEqual(len(told), 2)
        self.assertIs(told[0].__class__, list)
        self.assertIs(is_round(town, told[0]), True, town)
        self.parts_fit(town, told[1])
        sides = served_by_words(town)
        self.assertEqual(set(told[0]), set(sides), town)
        length = length_all(town, told[0])
        if not sides:
            self.assertEqual(told, ([], []))
            return 0
        prices = prices_by_words(town)
        more = max(prices["", side] for side in sides) + max(prices[side, ""] for side in sides)
        self.assertGreaterEqual(length, bound(town), town)
        self.assertLessEqual(length, bound(town) + (len(told[1]) - 1) * more, town)
        return len(told[1])

    # Of towns which leave no choice.
    def has_parts(self, town, many):
        self.assertEqual(self.round_fits(town), many)
        self.assertEqual(len(parts(town)), many)


class Parts(Telling):
    def test_no_served_sides(self):
        for town in (EMPTY, ("far", STREETS, ()), ("a", (("s", "a", "b", 1, 1),), ()),
                     ("a", (("s", "a", "b", 5, 2),), (("s>", "s<"),))):
            self.assertEqual(parts(town), [])
            self.assertEqual(round_of(town), ([], []))
            self.has_parts(town, 0)

    def test_one_served_side(self):
        town = ("a", (("o", "a", "a", 7, 1), ("s", "a", "b", 1, 1)), ())
        self.assertEqual(parts(town), [["o>"]])
        self.assertEqual(round_of(town), (["o>"], [["o>"]]))

    def test_a_town_without_bans_has_one_part(self):
        self.has_parts(TOWN, 1)
        self.has_parts(("a", (("s", "a", "b", 5, 2),), ()), 1)
        self.has_parts(("b", (("s", "a", "b", 5, 2), ("t", "b", "c", 5, 2), ("o", "b", "b", 1, 2)), ()), 1)
        for number in range(200):
            town = numbered_town(number)
            without = (town[0], town[1], ())
            self.has_parts(without, 1 if served_by_words(without) else 0)

    def test_a_town_of_loops_without_bans_has_one_part(self):
        for number in range(20):
            town = looped_town(number)
            self.has_parts(("a", town[1], ()), 1)
            self.has_parts(("b", town[1], ()), 1)

    def test_a_town_with_bans_that_has_one_part(self):
        self.has_parts(BANNED, 1)

    def test_a_town_with_bans_that_has_two_parts(self):
        self.has_parts(TWO_PARTS, 2)

    def test_a_town_of_eleven_parts(self):
        self.has_parts(town_of_eleven_parts(), 11)

    def test_what_is_exchanged_is_held_against_the_other_parts_anew(self):
        # Each order of the streets brings the rings in another order.
        streets = (("main", "a", "b", 1, 2), ("l", "b", "b", 1, 1), ("m", "b", "b", 1, 1), ("n", "b", "b", 1, 1))
        bans = (("main>", "l>"), ("m>", "main<"), ("l>", "m>"), ("n>", "l>"), ("m>", "n>"), ("n>", "main<"))
        for order in itertools.permutations(streets[1:]):
            for many in range(len(bans) + 1):
                for some in itertools.combinations(bans, many):
                    self.round_fits(("a", streets[:1] + order, some))
                    self.round_fits(("a", order + streets[:1], some))

    def test_many_towns(self):
        seen = {}
        for number in range(300):
            many = self.round_fits(numbered_town(number))
            seen[many] = seen.get(many, 0) + 1
        self.assertGreater(seen[0], 50)
        self.assertGreater(seen[1], 100)

    def test_towns_of_loops_and_bans(self):
        seen = {}
        for number in range(400):
            many = self.round_fits(looped_town(number, most_loops=4))
            seen[many] = seen.get(many, 0) + 1
        self.assertGreater(seen[1], 100)
        self.assertGreater(sum(seen[many] for many in seen if many > 1), 20)
        self.assertGreater(sum(seen[many] for many in seen if many > 2), 5)

    def test_towns_of_lanes(self):
        for number in range(100):
            self.round_fits(lane_town(number))
        for number in range(30):
            self.round_fits(lane_town(number, most_corners=9, most_across=17, most_bans=20, most_figures=60))


class Round(Telling):
    def test_one_part_and_a_round_as_long_as_the_bound(self):
        told = round_of(TOWN)
        self.assertEqual(length_all(TOWN, told[0]), bound(TOWN))
        self.assertEqual(len(told[1]), 1)
        self.assertEqual(sorted(told[0]), sorted(told[1][0]))

    def test_a_street(self):
        town = ("a", (("s", "a", "b", 5, 2),), ())
        self.assertEqual(round_of(town)[0], ["s>", "s<"])
        self.assertEqual(round_of(("b",) + town[1:])[0], ["s<", "s>"])

    def test_the_yard_in_each_corner(self):
        for yard in "abc":
            self.has_parts((yard, STREETS, ()), 1)
            self.assertEqual(length_all(TOWN, round_of((yard, STREETS, ()))[0]), bound(TOWN))

    def test_two_parts_and_a_longer_round(self):
        told = round_of(TWO_PARTS)
        self.assertEqual(bound(TWO_PARTS), 20)
        self.assertGreaterEqual(length_all(TWO_PARTS, told[0]), 23)
        self.assertLessEqual(length_all(TWO_PARTS, told[0]), 20 + 8 + 8)
        self.assertEqual(sorted(set(told[0])), ["main<", "main>", "o>", "p>"])

    def test_eleven_parts_and_a_longer_round(self):
        town = town_of_eleven_parts()
        told = round_of(town)
        self.assertGreater(length_all(town, told[0]), bound(town))
        self.assertEqual(served(town), sides_of(town))

    def test_sides_that_are_not_served_are_not_gone_along(self):
        streets = (("far", "x", "y", 1, 2), ("s", "a", "b", 5, 2), ("away", "b", "c", 1, 1), ("t", "b", "d", 6, 2))
        self.has_parts(("a", streets, ()), 1)
        self.assertEqual(round_of(("a", streets, ()))[0], ["s>", "t>", "t<", "s<"])

    def test_a_lane_that_is_gone_along_twice(self):
        town = ("a", (("one", "a", "b", 1, 1), ("two", "a", "b", 2, 1), ("home", "b", "a", 10, 1)), ())
        self.has_parts(town, 1)
        self.assertEqual(sorted(round_of(town)[0]), ["home>", "home>", "one>", "two>"])

    def test_great_towns_are_answered_in_good_time(self):
        for number, many_corners in ((1, 2), (2, 5), (3, 8), (4, 12), (5, 16), (6, 20)):
            town = great_town(number, many_corners)
            self.assertEqual((len(town[1]), len(town[2])), (30, 20))
            began = time.monotonic()
            round_of(town)
            self.assertLess(time.monotonic() - began, 10)
            self.round_fits(town)

    def test_a_long_round(self):
        # From each corner of a chain a lane leads back to the yard.
        names = [chr(ord("a") + k // 6) + chr(ord("a") + k % 6) for k in range(30)]
        chain = tuple((name, "c" + name, "c" + names[k + 1], 10 ** 60 - 1, 1) for k, name in enumerate(names[:15]))
        backs = tuple((name, "c" + names[k + 1], "caa", 10 ** 60 - 1, 1) for k, name in enumerate(names[15:]))
        town = ("caa", chain + backs, ())
        self.has_parts(town, 1)
        self.assertEqual(len(round_of(town)[0]), sum(range(2, 17)))


class Keeping(Telling):
    def test_a_told_list_is_the_askers_own(self):
        for town in (TOWN, BANNED, TWO_PARTS):
            for told in (parts(town), round_of(town)[1]):
                for ring in told:
                    ring[0] = "changed"
                    ring.append("changed")
                    ring.clear()
                told.append("changed")
                told.clear()
                self.round_fits(town)
            told = round_of(town)
            kept = copy.deepcopy(told[1])
            told[0][0] = "changed"
            told[0].clear()
            self.assertEqual(told[1], kept)
            self.round_fits(town)

    def test_a_round_is_no_list_of_its_parts(self):
        told = round_of(("a", (("o", "a", "a", 7, 1),), ()))
        told[1][0].append("changed")
        self.assertEqual(told[0], ["o>"])
        told[0].append("other")
        self.assertEqual(told[1], [["o>", "changed"]])

    def test_none_served_is_told_anew(self):
        told = round_of(EMPTY)
        told[0].append("changed")
        self.assertEqual(told[1], [])
        told[1].append("changed")
        parts(EMPTY).append("changed")
        self.assertEqual(round_of(EMPTY), ([], []))
        self.assertEqual(parts(EMPTY), [])

    def test_a_town_handed_in_stays_as_it_is(self):
        for town in (TOWN, BANNED, TWO_PARTS):
            kept = copy.deepcopy(town)
            self.round_fits(town)
            self.assertEqual(town, kept)

    def test_rings_are_walks(self):
        for town in (TOWN, BANNED, TWO_PARTS):
            for ring in parts(town):
                self.assertIs(is_walk(town, ring + ring), True)


if __name__ == "__main__":
    unittest.main()
