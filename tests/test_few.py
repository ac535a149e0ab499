"""Few sides: points [20] and [21], and the interface's part kerb/few.py."""

import copy
import heapq
import itertools
import unittest

from kerb.errors import KerbError, TooMany
from kerb.few import least
from kerb.pairing import bound
from kerb.reach import is_round, length_all, served
from kerb.towns import fits, sides_of
from tests.samples import (EMPTY, STREETS, all_allowed, corners_of, lane_town, lengths_of, looped_town, numbered_town,
                           prices_by_words, served_by_words)

# Two streets and a loop both ways, and a lane: seven sides.
SEVEN = ("a", (("s", "a", "b", 5, 2), ("t", "b", "c", 6, 2), ("o", "c", "c", 3, 2), ("l", "b", "b", 4, 1)), ())
GREAT = 10 ** 60 - 1

# One comes to the loop o and away from it by the loop p alone, so p is gone along twice.
TWICE = (
    "a",
    (("main", "a", "b", 5, 2), ("o", "b", "b", 7, 1), ("p", "b", "b", 3, 1)),
    (("main>", "o>"), ("o>", "main<")),
)


# What is gone along at least behind a state, by trying all orders of the sides that are not done.
def price_by_orders(town, done, last):
    prices = prices_by_words(town)
    lengths = lengths_of(town)
    left = [side for side in served_by_words(town) if side not in done]
    if not left and last == "":
        return 0
    found = []
    for order in itertools.permutations(left):
        stops = [last, *order]
        found.append(sum(prices[pair] for pair in zip(stops, stops[1:])) + sum(lengths[side] for side in order)
                     + prices[stops[-1], ""])
    return min(found)


# The same with no word of prices between: all walks on, by their length, each with the sides that are done by then.
def price_by_walks(town, done, last):
    corners = corners_of(town)
    lengths = lengths_of(town)
    turns = all_allowed(town)
    sides = served_by_words(town)
    number = 0
    waiting = [(0, number, last, frozenset(done))]
    seen = set()
    while waiting:
        length, ignored, here, along = heapq.heappop(waiting)
        at_yard = here == "" or corners[here][1] == town[0]
        if at_yard and len(along) == len(sides):
            return length
        if (here, along) not in seen:
            seen.add((here, along))
            for other in sides:
                if corners[other][0] == town[0] if here == "" else (here, other) in turns:
                    number += 1
                    heapq.heappush(waiting, (length + lengths[other], number, other, along | {other}))
    raise AssertionError("no round")


def states_of(sides):
    states = [((), "")]
    for many in range(1, len(sides) + 1):
        for done in itertools.combinations(sides, many):
            states += [(done, last) for last in done]
    return states


class Telling(unittest.TestCase):
    # By the words of points [20] and [21], one state by those behind it; told is the table, as a dict.
    def shows(self, town):
        self.assertIs(fits(town), True, town)
        sides = served_by_words(town)
        told = least(town)
        self.assertIs(told.__class__, tuple)
        self.assertEqual([part.__class__ for part in told], [list, list])
        self.assertEqual([entry.__class__ for entry in told[1]], [tuple] * len(told[1]))
        table = {(done, last): price for done, last, price in told[1]}
        self.assertEqual(len(told[1]), len(table), town)
        self.assertEqual(set(table), set(states_of(sides)), town)
        for price in table.values():
            self.assertIs(price.__class__, int)
        self.prices_fit(town, sides, table)
        self.assertIs(is_round(town, told[0]), True, town)
        self.assertEqual(set(told[0]), set(sides), town)
        self.assertEqual(length_all(town, told[0]), table[(), ""], town)
        self.assertGreaterEqual(table[(), ""], bound(town), town)
        return table

    def prices_fit(self, town, sides, table):
        prices = prices_by_words(town)
        lengths = lengths_of(town)
        for done, last in table:
            if not sides:
                price = 0
            elif len(done) == len(sides):
                price = prices[last, ""]
            else:
                price = min(
                    prices[last, side] + lengths[side]
                    + table[tuple(each for each in sides if each in done or each == side), side]
                    for side in sides if side not in done)
            self.assertEqual(table[done, last], price, (town, done, last))

    # One side more than there is room for.
    def refuses(self, town):
        self.assertIs(fits(town), True, town)
        self.assertGreater(len(served_by_words(town)), 7)
        with self.assertRaises(TooMany) as caught:
            least(town)
        self.assertIs(caught.exception.__class__, TooMany)
        for taken in (KerbError, ValueError):
            with self.assertRaises(taken):
                least(town)


class Few(Telling):
    def test_no_served_sides(self):
        for town in (EMPTY, ("far", STREETS, ()), ("a", (("s", "a", "b", 1, 1),), ()),
                     ("a", (("s", "a", "b", 5, 2),), (("s>", "s<"),))):
            self.assertEqual(least(town), ([], [((), "", 0)]))
            self.shows(town)

    def test_one_served_side(self):
        town = ("a", (("o", "a", "a", 7, 1), ("s", "a", "b", 1, 1)), ())
        told = least(town)
        self.assertEqual(told[0], ["o>"])
        self.assertEqual(sorted(told[1]), [((), "", 7), (("o>",), "o>", 0)])
        self.shows(town)

    def test_two_served_sides(self):
        town = ("a", (("s", "a", "b", 5, 2),), ())
        told = least(town)
        self.assertEqual(told[0], ["s>", "s<"])
        self.assertEqual(sorted(told[1]), [
            ((), "", 10), (("s<",), "s<", 10), (("s>",), "s>", 5), (("s>", "s<"), "s<", 0), (("s>", "s<"), "s>", 5)])
        self.shows(town)

    def test_seven_served_sides(self):
        self.assertEqual(len(served(SEVEN)), 7)
        table = self.shows(SEVEN)
        self.assertEqual(len(table), 1 + 7 * 64)
        self.assertEqual(table[(), ""], 32)

    def test_eight_served_sides(self):
        more = ("a", SEVEN[1] + (("m", "a", "a", 1, 1),), ())
        self.assertEqual(len(served(more)), 8)
        self.refuses(more)
        self.refuses(("a", tuple(("o" + sign, "a", "a", 1, 2) for sign in "abcd"), ()))
        self.refuses(("a", STREETS, ()))

    def test_nine_and_sixty_served_sides(self):
        self.refuses(("a", SEVEN[1] + (("m", "a", "a", 1, 2),), ()))
        self.refuses(("a", tuple(("o" + chr(ord("a") + k // 6) + chr(ord("a") + k % 6), "a", "a", 1, 2)
                                 for k in range(30)), ()))

    def test_more_sides_that_are_not_served(self):
        isles = tuple(("i" + chr(ord("a") + k), "x", "y", 1, 2) for k in range(20))
        away = (("away", "b", "z", 1, 1), ("end", "z", "zz", 1, 2))
        for streets in (SEVEN[1] + isles + away, isles + SEVEN[1] + away, away + isles + SEVEN[1]):
            town = ("a", streets, ())
            self.assertGreater(len(sides_of(town)), 40)
            self.assertEqual(self.shows(town), self.shows(SEVEN))
        self.refuses(("a", SEVEN[1] + isles + (("m", "a", "a", 1, 1),), ()))

    def test_bans_that_leave_few_sides(self):
        streets = SEVEN[1] + (("m", "c", "d", 1, 2), ("n", "d", "d", 1, 2))
        self.refuses(("a", streets, ()))
        bans = (("t>", "m>"), ("o>", "m>"), ("o<", "m>"))
        self.assertEqual(served(("a", streets, bans)), served(SEVEN))
        self.assertEqual(self.shows(("a", streets, bans)), self.shows(SEVEN))

    def test_done_stands_in_the_sides_order(self):
        turned = ("a", tuple(reversed(SEVEN[1])), ())
        table = self.shows(turned)
        self.assertIn((("l>", "o>", "o<", "t>", "t<", "s>", "s<"), "s>"), table)
        self.assertEqual(table[(), ""], 32)

    def test_a_side_that_is_gone_along_twice(self):
        told = least(TWICE)
        self.assertEqual(told[0], ["main>", "p>", "o>", "p>", "main<"])
        self.assertEqual(self.shows(TWICE)[(), ""], 23)
        self.assertEqual(bound(TWICE), 20)
        lanes = ("a", (("one", "a", "b", 1, 1), ("two", "a", "b", 2, 1), ("home", "b", "a", 10, 1)), ())
        self.assertEqual(self.shows(lanes)[(), ""], 23)

    def test_lengths_of_sixty_figures(self):
        town = ("a", tuple(street[:3] + (GREAT - k,) + street[4:] for k, street in enumerate(SEVEN[1])), ())
        self.assertEqual(self.shows(town)[(), ""], 7 * GREAT - 2 * 1 - 2 * 2 - 3)
        self.shows(("a", tuple(street[:3] + (GREAT,) + street[4:] for street in TWICE[1]), TWICE[2]))

    def test_held_against_all_orders(self):
        seen = 0
        for number in range(200):
            town = numbered_town(number, most_streets=5)
            sides = served_by_words(town)
            if len(sides) <= 5:
                table = self.shows(town)
                for done, last in table:
                    self.assertEqual(table[done, last], price_by_orders(town, done, last), (town, done, last))
                seen += len(sides) > 2
        self.assertGreater(seen, 20)

    def test_seven_sides_held_against_all_orders(self):
        self.assertEqual(self.shows(SEVEN)[(), ""], price_by_orders(SEVEN, (), ""))

    def test_held_against_all_walks(self):
        seen = {}
        towns = [SEVEN, TWICE] + [lane_town(number) for number in range(60)]
        for town in towns + [looped_town(number, most_loops=4) for number in range(60)]:
            sides = served_by_words(town)
            if len(sides) <= 7:
                table = self.shows(town)
                states = list(table) if len(sides) <= 4 else [((), "")]
                for done, last in states:
                    self.assertEqual(table[done, last], price_by_walks(town, done, last), (town, done, last))
                seen[len(sides)] = seen.get(len(sides), 0) + 1
            else:
                self.refuses(town)
        for many in (2, 3, 4, 5, 6, 7):
            self.assertGreater(seen[many], 3, many)


class Keeping(Telling):
    def test_a_told_list_is_the_askers_own(self):
        for town in (SEVEN, TWICE, EMPTY):
            kept = copy.deepcopy(self.shows(town))
            told = least(town)
            for part in told:
                part.append("changed")
                part[0] = "changed"
                part.clear()
            self.assertEqual(self.shows(town), kept)
            self.assertIsNot(least(town)[0], least(town)[0])
            self.assertIsNot(least(town)[1], least(town)[1])
        self.assertEqual(least(EMPTY), ([], [((), "", 0)]))

    def test_a_town_handed_in_stays_as_it_is(self):
        for town in (SEVEN, TWICE, ("a", SEVEN[1] + (("m", "a", "a", 1, 1),), ())):
            kept = copy.deepcopy(town)
            try:
                least(town)
            except TooMany:
                pass
            self.assertEqual(town, kept)


if __name__ == "__main__":
    unittest.main()
