"""Least ways and their prices: points [12] and [13], and the interface's part kerb/ways.py."""

import copy
import itertools
import unittest

from kerb.errors import Unknown
from kerb.reach import is_walk, length_all
from kerb.towns import fits, sides_of
from kerb.ways import price_between, price_home, price_out, prices_from, way_between, way_home, way_out
from tests.samples import (APART, BANS, EMPTY, NO_SIDES, SIDES, STREETS, all_allowed, corners_of, great_town,
                           is_allowed, lengths_of, looped_town, numbered_town, prices_by_words)

TOWN = ("a", STREETS, ())
BANNED = ("a", STREETS, BANS)

GREAT = 10 ** 60 - 1


# The least of all walks from each side to each, by trying all those in which nothing lies between twice.
def least_of_all_walks(town):
    lengths = lengths_of(town)
    turns = all_allowed(town)
    found = {(one, other): None for one in lengths for other in lengths}
    for many in range(len(lengths) + 1):
        for between in itertools.permutations(lengths, many):
            price = sum(lengths[side] for side in between)
            for one, other in found:
                walk = [one, *between, other]
                if all(pair in turns for pair in zip(walk, walk[1:])):
                    found[one, other] = price if found[one, other] is None else min(price, found[one, other])
    return found


class Ways(unittest.TestCase):
    def is_whole_or_none(self, price):
        self.assertIn(price.__class__, (int, None.__class__))

    # A price as it should be, and a way that has it and makes a walk with its ends.
    def way_costs(self, town, price, way, walk):
        if price is None:
            self.assertIsNone(way, (town, walk))
            return
        self.assertIs(way.__class__, list)
        self.assertIs(is_walk(town, walk(way)), True, (town, walk(way)))
        self.assertEqual(length_all(town, way), price, (town, walk(way)))

    def leads(self, town, one, other, price):
        told = price_between(town, one, other)
        self.is_whole_or_none(told)
        self.assertEqual(told, price, (town, one, other))
        self.way_costs(town, price, way_between(town, one, other), lambda way: [one] + way + [other])

    def leads_out(self, town, side, price):
        told = price_out(town, side)
        self.is_whole_or_none(told)
        self.assertEqual(told, price, (town, side))
        self.way_costs(town, price, way_out(town, side), lambda way: way + [side])
        if price is not None:
            self.assertEqual(corners_of(town)[(way_out(town, side) + [side])[0]][0], town[0])

    def leads_home(self, town, side, price):
        told = price_home(town, side)
        self.is_whole_or_none(told)
        self.assertEqual(told, price, (town, side))
        self.way_costs(town, price, way_home(town, side), lambda way: [side] + way)
        if price is not None:
            self.assertEqual(corners_of(town)[([side] + way_home(town, side))[-1]][1], town[0])

    def leads_everywhere(self, town):
        self.assertIs(fits(town), True, town)
        prices = prices_by_words(town)
        sides = list(corners_of(town))
        for one in sides:
            self.assertEqual(prices_from(town, one), [prices.get((one, other)) for other in sides], (town, one))
            for other in sides:
                self.leads(town, one, other, prices.get((one, other)))
            self.leads_out(town, one, prices.get(("", one)))
            self.leads_home(town, one, prices.get((one, "")))


class Between(Ways):
    def test_nothing_lies_between_where_one_may_turn(self):
        for town in (TOWN, BANNED, APART):
            for one in sides_of(town):
                for other in sides_of(town):
                    if is_allowed(town, one, other):
                        self.leads(town, one, other, 0)
                        self.assertEqual(way_between(town, one, other), [])
                    else:
                        self.assertNotEqual(price_between(town, one, other), 0)
                        self.assertNotEqual(way_between(town, one, other), [])

    def test_some_ways(self):
        self.leads(TOWN, "main>", "ring>", 2)
        self.assertEqual(way_between(TOWN, "main>", "ring>"), ["back<"])
        self.leads(TOWN, "ring<", "main>", 7)
        self.assertEqual(way_between(TOWN, "ring<", "main>"), ["back>", "main<"])
        self.leads(TOWN, "main<", "ring>", 7)
        self.leads(TOWN, "lane>", "lane>", 2)
        self.leads(TOWN, "main<", "lane>", 5)

    def test_the_ends_do_not_count(self):
        town = ("a", (("s", "a", "b", 100, 1), ("t", "b", "c", 1, 1), ("u", "c", "d", 1000, 1)), ())
        self.leads(town, "s>", "u>", 1)
        self.assertEqual(way_between(town, "s>", "u>"), ["t>"])

    def test_a_loop_and_itself(self):
        for side in ("ring>", "ring<", "spin>"):
            self.leads(TOWN, side, side, 0)
        self.assertEqual(prices_from(("b", (("o", "a", "a", 7, 1),), ()), "o>"), [0])

    def test_a_loop_into_which_one_may_not_turn_from_itself(self):
        self.leads(BANNED, "spin>", "spin>", 2 + 3 + 2)
        self.leads(("a", (("o", "b", "b", 7, 1),), (("o>", "o>"),)), "o>", "o>", None)
        self.leads(("a", (("o", "b", "b", 7, 2),), (("o>", "o>"),)), "o>", "o>", 7)
        self.assertEqual(way_between(("a", (("o", "b", "b", 7, 2),), (("o>", "o>"),)), "o>", "o>"), ["o<"])

    def test_a_two_way_streets_side_and_itself(self):
        town = ("a", (("s", "a", "b", 5, 2),), ())
        for one, other in (("s>", "s<"), ("s<", "s>")):
            self.leads(town, one, one, 5)
            self.assertEqual(way_between(town, one, one), [other])
            self.leads(town, one, other, 0)

    def test_a_side_and_itself_by_the_shorter_way_round(self):
        town = ("a", (("s", "a", "b", 5, 2), ("t", "b", "a", 4, 1)), ())
        self.leads(town, "s>", "s>", 4)
        self.assertEqual(way_between(town, "s>", "s>"), ["t>"])
        self.leads(town, "t>", "t>", 5)

    def test_a_side_that_never_comes_round_to_itself(self):
        self.leads(APART, "away>", "away>", None)
        self.leads(APART, "from>", "from>", None)
        self.leads(("a", (("s", "a", "b", 5, 1),), ()), "s>", "s>", None)
        self.leads(("x", (("s", "a", "b", 5, 2),), (("s>", "s<"),)), "s>", "s>", None)
        self.leads(("x", (("s", "a", "b", 5, 2),), (("s>", "s<"),)), "s<", "s<", None)
        self.leads(("x", (("s", "a", "b", 5, 2),), (("s>", "s<"),)), "s<", "s>", 0)

    def test_no_way(self):
        for one, other in (("away>", "main>"), ("main>", "from>"), ("main>", "isle>"), ("isle<", "main>"),
                           ("end>", "away>")):
            self.leads(APART, one, other, None)
        self.leads(APART, "main>", "end<", 1 + 2)
        self.leads(APART, "from>", "end>", 5 + 1)

    def test_a_ban_makes_the_way_longer(self):
        self.leads(TOWN, "main>", "lane>", 0)
        self.leads(BANNED, "main>", "lane>", 4)
        self.assertEqual(way_between(BANNED, "main>", "lane>"), ["spin>"])
        self.leads(TOWN, "back<", "back>", 0)
        self.leads(BANNED, "back<", "back>", 3)
        streets = (("s", "a", "b", 1, 1), ("t", "b", "c", 2, 1), ("v", "c", "d", 1, 1), ("u", "b", "c", 3, 1))
        self.leads(("a", streets, ()), "s>", "v>", 2)
        self.leads(("a", streets, (("s>", "t>"),)), "s>", "v>", 3)
        self.leads(("a", streets, (("t>", "v>"),)), "s>", "v>", 3)

    def test_a_ban_takes_the_way_away(self):
        streets = (("near", "a", "b", 5, 2), ("far", "b", "c", 6, 2))
        self.leads(("a", streets, ()), "near>", "far>", 0)
        self.leads(("a", streets, (("near>", "far>"),)), "near>", "far>", None)
        self.leads(("a", streets, (("near>", "far>"),)), "far>", "near<", 6)
        self.leads(("a", streets, (("far<", "near<"),)), "far>", "near<", None)

    def test_one_goes_along_a_corner_twice_where_bans_ask_for_it(self):
        streets = (("s", "a", "b", 1, 1), ("o", "b", "b", 20, 1), ("t", "b", "c", 1, 1), ("u", "b", "d", 3, 2))
        self.leads(("a", streets, (("s>", "t>"),)), "s>", "t>", 6)
        self.assertEqual(way_between(("a", streets, (("s>", "t>"),)), "s>", "t>"), ["u>", "u<"])
        self.leads(("a", streets, (("s>", "t>"), ("u<", "t>"))), "s>", "t>", 20)

    def test_few_long_sides_and_many_short_ones(self):
        chain = tuple(("s" + chr(ord("a") + k), "c" + chr(ord("a") + k), "c" + chr(ord("a") + k + 1), 1, 1)
                      for k in range(8))
        ends = (("in", "x", "ca", 1, 1), ("out", "ci", "y", 1, 1))
        for length, price in ((9, 8), (8, 8), (7, 7)):
            town = ("x", chain + ends + (("long", "ca", "ci", length, 1),), ())
            self.leads(town, "in>", "out>", price)
            turned = ("x", (("long", "ca", "ci", length, 1),) + ends + chain, ())
            self.leads(turned, "in>", "out>", price)
        self.assertEqual(way_between(town, "in>", "out>"), ["long>"])

    def test_a_price_that_is_lowered_while_it_waits(self):
        streets = (("in", "x", "a", 1, 1), ("dear", "a", "c", 9, 1), ("one", "a", "b", 1, 1), ("two", "b", "c", 2, 1),
                   ("out", "c", "y", 1, 1), ("last", "y", "z", 1, 1))
        for order in itertools.permutations(streets):
            self.assertEqual(price_between(("x", order, ()), "in>", "out>"), 3)
            self.assertEqual(way_between(("x", order, ()), "in>", "last>"), ["one>", "two>", "out>"])

    def test_lengths_of_sixty_figures(self):
        streets = (("s", "a", "b", GREAT, 2), ("t", "b", "c", GREAT, 2), ("u", "c", "d", GREAT - 1, 2),
                   ("v", "b", "d", 2 * 10 ** 59, 1))
        town = ("a", streets, ())
        self.leads(town, "s>", "u<", 2 * 10 ** 59)
        self.leads(town, "s<", "u>", 2 * GREAT)
        self.leads(town, "s>", "s>", GREAT)
        self.leads(town, "u>", "s<", 2 * GREAT - 1)
        self.leads(("a", streets[:3], ()), "s>", "u<", 2 * GREAT - 1)
        self.leads(("a", streets[:3], ()), "s>", "s>", GREAT)

    def test_what_is_told_may_be_longer_than_sixty_figures(self):
        names = [chr(ord("a") + k // 6) + chr(ord("a") + k % 6) for k in range(30)]
        streets = tuple((name, "c" + name, "c" + (names + ["end"])[k + 1], GREAT, 2) for k, name in enumerate(names))
        town = ("caa", streets, ())
        self.leads(town, names[0] + ">", names[-1] + "<", 29 * GREAT)
        self.leads(town, names[0] + ">", names[0] + ">", GREAT)
        self.leads(town, names[-1] + ">", names[-1] + ">", GREAT)
        self.leads(town, names[-1] + ">", names[0] + ">", 30 * GREAT)

    def test_held_against_all_walks_of_small_towns(self):
        seen = {}
        for number in range(300):
            town = numbered_town(number, most_streets=4)
            if len(corners_of(town)) <= 5:
                prices = least_of_all_walks(town)
                for one, other in prices:
                    self.leads(town, one, other, prices[one, other])
                    seen[prices[one, other]] = seen.get(prices[one, other], 0) + 1
        self.assertGreater(seen[None], 50)
        self.assertGreater(seen[0], 50)
        self.assertGreater(sum(seen.values()) - seen[None] - seen[0], 50)


class OutAndHome(Ways):
    def test_a_side_that_begins_in_the_yards_corner(self):
        for town in (TOWN, BANNED, APART):
            for side in sides_of(town):
                if corners_of(town)[side][0] == "a":
                    self.leads_out(town, side, 0)
                    self.assertEqual(way_out(town, side), [])

    def test_a_side_that_ends_in_the_yards_corner(self):
        for town in (TOWN, BANNED, APART):
            for side in sides_of(town):
                if corners_of(town)[side][1] == "a":
                    self.leads_home(town, side, 0)
                    self.assertEqual(way_home(town, side), [])

    def test_a_loop_in_the_yards_corner(self):
        town = ("a", (("o", "a", "a", 3, 2), ("s", "a", "b", 5, 2)), ())
        for side in ("o>", "o<"):
            self.leads_out(town, side, 0)
            self.leads_home(town, side, 0)
        self.leads_out(town, "s<", 5)
        self.leads_home(town, "s>", 5)

    def test_other_sides(self):
        self.leads_out(TOWN, "main<", 5)
        self.assertEqual(way_out(TOWN, "main<"), ["main>"])
        self.leads_out(TOWN, "ring>", 7)
        self.assertEqual(way_out(TOWN, "ring>"), ["main>", "back<"])
        self.leads_home(TOWN, "ring>", 7)
        self.assertEqual(way_home(TOWN, "ring>"), ["back>", "main<"])
        self.leads_home(TOWN, "main>", 5)
        self.assertEqual(way_home(TOWN, "main>"), ["main<"])
        self.leads_home(TOWN, "lane>", 7)

    def test_bans_make_them_longer(self):
        self.leads_out(TOWN, "lane>", 5)
        self.leads_out(BANNED, "lane>", 9)
        self.assertEqual(way_out(BANNED, "lane>"), ["main>", "spin>"])
        self.leads_home(TOWN, "back<", 7)
        self.leads_home(BANNED, "back<", 10)

    def test_bans_take_them_away(self):
        streets = (("near", "a", "b", 5, 2), ("far", "b", "c", 6, 2))
        self.leads_out(("a", streets, (("near>", "far>"),)), "far>", None)
        self.leads_out(("a", streets, (("near>", "far>"),)), "far<", None)
        self.leads_home(("a", streets, (("near>", "far>"),)), "far<", 5)
        self.leads_home(("a", streets, (("far<", "near<"),)), "far<", None)
        self.leads_home(("a", streets, (("far<", "near<"),)), "far>", None)
        self.leads_out(("a", streets, (("far<", "near<"),)), "far<", 11)

    def test_no_way_out(self):
        for side in ("from>", "isle>", "isle<"):
            self.leads_out(APART, side, None)
        self.leads_home(APART, "from>", 0)

    def test_no_way_home(self):
        for side in ("away>", "end>", "end<", "isle>", "isle<"):
            self.leads_home(APART, side, None)
        self.leads_out(APART, "away>", 5)
        self.leads_out(APART, "end>", 6)
        self.leads_out(APART, "end<", 8)

    def test_a_yard_at_no_street(self):
        for side in SIDES:
            self.leads_out(("far", STREETS, ()), side, None)
            self.leads_home(("far", STREETS, ()), side, None)

    def test_out_and_home_are_not_of_one_price(self):
        town = ("a", (("s", "a", "b", 1, 1), ("t", "b", "c", 2, 1), ("u", "c", "a", 4, 1)), ())
        self.leads_out(town, "t>", 1)
        self.leads_home(town, "t>", 4)
        self.leads_out(town, "u>", 3)
        self.leads_home(town, "s>", 6)

    def test_lengths_of_sixty_figures(self):
        town = ("a", (("s", "a", "b", GREAT, 2), ("t", "b", "c", GREAT, 2), ("u", "c", "d", 1, 2)), ())
        self.leads_out(town, "u>", 2 * GREAT)
        self.leads_out(town, "u<", 2 * GREAT + 1)
        self.leads_home(town, "u>", 2 * GREAT + 1)
        self.leads_home(town, "t>", 2 * GREAT)


class Lists(Ways):
    def test_in_the_sides_order(self):
        self.assertEqual(prices_from(TOWN, "main>"), [5, 0, 0, 2, 0, 2, 2, 0])
        self.assertEqual(prices_from(TOWN, "main<"), [0, 5, 5, 7, 5, 7, 7, 5])
        turned = ("a", tuple(reversed(STREETS)), ())
        self.assertEqual(prices_from(turned, "main>"), [0, 2, 2, 2, 0, 0, 5, 0])

    def test_as_long_as_there_are_sides(self):
        for town in (TOWN, BANNED, APART, ("far", STREETS, ())):
            for side in sides_of(town):
                told = prices_from(town, side)
                self.assertIs(told.__class__, list)
                self.assertEqual(len(told), len(sides_of(town)))

    def test_none_where_there_is_no_way(self):
        self.assertEqual(prices_from(APART, "away>"), [None, None, None, 0, 2, None, None, None])
        self.assertEqual(prices_from(APART, "isle>"), [None] * 6 + [4, 0])
        self.assertEqual(prices_from(("a", (("s", "a", "b", 1, 1),), ()), "s>"), [None])

    def test_many_towns(self):
        for number in range(150):
            self.leads_everywhere(numbered_town(number, most_streets=6, most_figures=2))

    def test_towns_of_loops_and_bans(self):
        for number in range(30):
            self.leads_everywhere(looped_town(number))

    def test_lengths_of_many_figures(self):
        for number in range(30):
            self.leads_everywhere(numbered_town(number, most_streets=6, most_figures=60))

    def test_towns_of_thirty_streets_and_twenty_bans(self):
        for number, many_corners in ((0, 1), (1, 4), (2, 12), (3, 20)):
            town = great_town(number, many_corners)
            prices = prices_by_words(town)
            sides = sides_of(town)
            for one in sides:
                self.assertEqual(prices_from(town, one), [prices.get((one, other)) for other in sides])
                self.leads_out(town, one, prices.get(("", one)))
                self.leads_home(town, one, prices.get((one, "")))
            for one, other in zip(sides, reversed(sides)):
                self.leads(town, one, other, prices.get((one, other)))


class Strangers(unittest.TestCase):
    def test_of_one_side(self):
        for asked in (prices_from, price_out, price_home, way_out, way_home):
            for town in (TOWN, APART, EMPTY, ("far", STREETS, ())):
                for text in NO_SIDES:
                    if text not in sides_of(town):
                        with self.assertRaises(Unknown, msg=(asked, text)):
                            asked(town, text)

    def test_as_the_first_side(self):
        for asked in (price_between, way_between):
            for text in NO_SIDES:
                for side in SIDES:
                    with self.assertRaises(Unknown, msg=(asked, text)):
                        asked(TOWN, text, side)

    def test_as_the_second_side(self):
        for asked in (price_between, way_between):
            for text in NO_SIDES:
                for side in SIDES:
                    with self.assertRaises(Unknown, msg=(asked, text)):
                        asked(TOWN, side, text)

    def test_as_both(self):
        for asked in (price_between, way_between):
            for town in (TOWN, EMPTY):
                for text in NO_SIDES:
                    with self.assertRaises(Unknown, msg=(asked, text)):
                        asked(town, text, text)

    def test_the_back_side_of_a_lane(self):
        for asked in (prices_from, price_out, price_home, way_out, way_home):
            with self.assertRaises(Unknown):
                asked(APART, "away<")
        for asked in (price_between, way_between):
            for one, other in (("away<", "main>"), ("main>", "away<"), ("away<", "away<"), ("isle>", "away<")):
                with self.assertRaises(Unknown):
                    asked(APART, one, other)


class Keeping(Ways):
    def test_a_told_list_is_the_askers_own(self):
        deeds = (lambda: prices_from(TOWN, "main>"), lambda: way_between(TOWN, "ring>", "main>"),
                 lambda: way_out(TOWN, "ring>"), lambda: way_home(TOWN, "ring>"), lambda: way_out(TOWN, "main>"),
                 lambda: way_between(TOWN, "main>", "main<"), lambda: way_home(TOWN, "main<"))
        for deed in deeds:
            kept = copy.deepcopy(deed())
            first = deed()
            first.append("changed")
            first[0] = "changed"
            self.assertEqual(deed(), kept)
            first.clear()
            self.assertEqual(deed(), kept)
            self.assertIsNot(deed(), deed())
        self.leads_everywhere(TOWN)

    def test_a_town_handed_in_stays_as_it_is(self):
        for town in (TOWN, BANNED, APART):
            kept = copy.deepcopy(town)
            self.leads_everywhere(town)
            self.assertEqual(town, kept)

    def test_towns_do_not_mix(self):
        for price in (5, 9, 5):
            self.leads(("a", (("s", "a", "b", price, 2),), ()), "s>", "s>", price)
            self.leads_out(("a", (("s", "a", "b", price, 2),), ()), "s<", price)


if __name__ == "__main__":
    unittest.main()
