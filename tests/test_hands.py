"""A round parted among hands: points [22] and [23], and the interface's part kerb/hands.py."""

import copy
import unittest

from kerb.errors import NoRound
from kerb.hands import parted
from kerb.rounds import round_of
from kerb.towns import fits
from tests.samples import (APART, BANS, EMPTY, FAR, NO_SIDES, SIDES, STREETS, great_town, is_round_by_words, lane_town,
                           lengths_of, looped_town, numbered_town, prices_by_words, wandering_round)

TOWN = ("a", STREETS, ())
BANNED = ("a", STREETS, BANS)
GREAT = 10 ** 60 - 1
MANIES = range(1, 10)

# All of it, once along each side, and again and again along some.
ROUND = ["main>", "spin>", "lane>", "ring>", "ring<", "back>", "back<", "back>", "main<"]
AGAIN = ["main>", "main<"] * 3 + ["main>", "back<", "ring>", "ring>", "ring>", "back>", "spin>", "spin>", "main<"]


# What each hand goes, and the most that point [23] lets it go, both times many.
def farthest_and_most(town, sides, hands):
    lengths = lengths_of(town)
    prices = prices_by_words(town)
    gone = [sum(lengths[side] for side in out + stretch + home) for out, stretch, home in hands]
    extra = max((prices[("", side)] + lengths[side] for side in sides), default=0)
    extra += max((prices[(side, "")] for side in sides), default=0)
    return len(hands) * max(gone), sum(lengths[side] for side in sides) + len(hands) * extra


class Parting(unittest.TestCase):
    def parts_well(self, town, sides, many):
        told = parted(town, list(sides), many)
        self.is_of_its_kind(told, many)
        self.assertEqual([side for hand in told for side in hand[1]], sides, (town, sides, many))
        for out, stretch, home in told:
            self.goes_a_round(town, out, stretch, home)
        farthest, most = farthest_and_most(town, sides, told)
        self.assertLessEqual(farthest, most, (town, sides, many, told))
        return told

    def is_of_its_kind(self, told, many):
        self.assertIs(told.__class__, list)
        self.assertEqual(len(told), many)
        for hand in told:
            self.assertIs(hand.__class__, tuple)
            self.assertEqual([part.__class__ for part in hand], [list, list, list])

    def goes_a_round(self, town, out, stretch, home):
        self.assertTrue(is_round_by_words(town, out + stretch + home), (town, out, stretch, home))
        if not stretch:
            self.assertEqual((out, home), ([], []))
            return
        lengths = lengths_of(town)
        prices = prices_by_words(town)
        self.assertEqual(sum(lengths[side] for side in out), prices[("", stretch[0])], (town, out, stretch))
        self.assertEqual(sum(lengths[side] for side in home), prices[(stretch[-1], "")], (town, stretch, home))

    def parts_well_among_all(self, town, sides):
        self.assertIs(fits(town), True)
        self.assertTrue(is_round_by_words(town, sides))
        return [self.parts_well(town, sides, many) for many in MANIES]


class Hands(Parting):
    def test_one_hand_goes_the_round(self):
        for town, sides in ((TOWN, ROUND), (TOWN, AGAIN), (FAR, ["yardloop>"]), (EMPTY, [])):
            self.assertEqual(parted(town, sides, 1), [([], sides, [])])

    def test_up_to_nine_hands(self):
        for sides in (ROUND, AGAIN, ["main>", "main<"], ["main>", "spin>", "main<"]):
            self.parts_well_among_all(TOWN, sides)

    def test_more_hands_than_sides(self):
        town = ("a", (("s", "a", "b", 5, 2), ("o", "a", "a", 3, 1)), ())
        for sides in (["o>"], ["s>", "s<"], ["o>", "s>", "s<"]):
            for many, told in zip(MANIES, self.parts_well_among_all(town, sides)):
                self.assertLessEqual(len([hand for hand in told if hand[1]]), len(sides))
                self.assertEqual(len(told), many)

    def test_the_round_without_sides(self):
        for town in (TOWN, BANNED, EMPTY, APART, FAR):
            for many in MANIES:
                self.assertEqual(parted(town, [], many), [([], [], [])] * many)

    def test_somewhat_more_than_nine_hands(self):
        for many in (10, 12, 30):
            self.parts_well(TOWN, ROUND, many)
            self.assertEqual(parted(TOWN, [], many), [([], [], [])] * many)

    def test_sides_gone_along_again_and_again(self):
        town = ("a", (("o", "a", "a", 3, 1), ("s", "a", "b", 4, 2), ("p", "b", "b", 1, 1)), ())
        self.parts_well_among_all(town, ["o>"] * 20)
        self.parts_well_among_all(town, ["s>", "s<"] * 10)
        self.parts_well_among_all(town, ["s>"] + ["p>"] * 30 + ["s<"])
        self.parts_well_among_all(TOWN, AGAIN + AGAIN)

    def test_a_round_that_passes_the_yards_corner(self):
        self.parts_well_among_all(TOWN, ["main>", "main<"] * 4)
        self.parts_well_among_all(TOWN, ROUND + ROUND)
        self.parts_well_among_all(FAR, ["yardloop>", "near>", "near<", "yardloop>", "yardloop>"] + ["near>", "near<"])

    def test_bans_make_ways_out_and_home_longer(self):
        self.parts_well_among_all(BANNED, ["main>", "spin>", "lane>", "ring>", "back>", "back<", "ring<", "back>",
                                           "main<"])

    def test_a_long_side_far_out(self):
        sides = ["near>", "round>", "trip>", "round>", "long>", "long<", "trip>", "near<", "yardloop>"]
        self.parts_well_among_all(FAR, sides)
        self.parts_well_among_all(FAR, sides + sides)

    def test_shares_that_end_just_where_sides_end(self):
        town = ("a", (("s", "a", "b", 1, 2), ("t", "b", "c", 1, 2)), ())
        sides = ["s>", "t>", "t<", "s<"]
        self.parts_well_among_all(town, sides)
        self.parts_well_among_all(town, sides * 9)
        self.parts_well_among_all(("a", (("o", "a", "a", 1, 1),), ()), ["o>"] * 9)

    def test_none_goes_more_than_a_share_and_a_side_where_ways_cost_nothing(self):
        town = ("a", (("o", "a", "a", 7, 1), ("p", "a", "a", 2, 1)), ())
        sides = ["o>", "p>", "p>", "o>", "p>", "p>", "p>", "o>", "o>", "p>"]
        for many in MANIES:
            for out, stretch, home in self.parts_well(town, sides, many):
                self.assertEqual((out, home), ([], []))
                self.assertLessEqual(many * sum(lengths_of(town)[side] for side in stretch), 40 + many * 7)

    # A stretch whose first side lies far out and is short, and whose last one is long and near home: to count the last
    # side in the first one's place would be too much.
    def test_the_side_that_is_counted_is_the_one_with_its_way_out(self):
        town = ("a", (("dear", "a", "b", 30, 1), ("o", "b", "b", 1, 1), ("back", "b", "a", 1, 1),
                      ("loop", "a", "a", 30, 1)), ())
        for before in range(12):
            for between in range(12):
                sides = ["dear>"] + ["o>"] * before + ["o>"] * between + ["back>", "loop>", "loop>"]
                self.parts_well_among_all(town, sides)

    # The last side of a stretch may not be the one that reaches out of the share.
    def test_a_long_side_behind_many_short_ones_far_out(self):
        town = ("a", (("in", "a", "b", 40, 1), ("o", "b", "b", 1, 1), ("out", "b", "a", 40, 1)), ())
        for often in range(120):
            self.parts_well(town, ["in>"] + ["o>"] * often + ["out>"], 2)
            self.parts_well(town, ["in>"] + ["o>"] * often + ["out>"], 3)

    def test_great_lengths(self):
        streets = (("s", "a", "b", GREAT, 2), ("t", "b", "c", GREAT - 1, 2), ("o", "c", "c", 1, 1))
        town = ("a", streets, ())
        self.parts_well_among_all(town, ["s>", "t>", "t<", "s<"])
        self.parts_well_among_all(town, ["s>", "t>"] + ["o>"] * 5 + ["t<", "t>", "t<", "s<", "s>", "s<"])

    def test_a_round_of_nine_hundred_sides(self):
        self.parts_well_among_all(TOWN, (ROUND * 100)[:900])
        self.parts_well_among_all(FAR, ["near>", "near<", "yardloop>"] * 300)


class ManyTowns(Parting):
    def test_the_towns_own_rounds(self):
        seen = 0
        for number in range(60):
            for town in (numbered_town(number), looped_town(number), lane_town(number, 6, 6)):
                sides = round_of(town)[0]
                seen += len(sides) > 9
                self.parts_well_among_all(town, sides)
        self.assertGreater(seen, 40)

    def test_wandering_rounds(self):
        seen = 0
        for number in range(60):
            for town in (numbered_town(number, most_figures=3), lane_town(number, 6, 6, most_figures=2)):
                sides = wandering_round(town, number, number)
                seen += len(sides) > len(set(sides))
                self.parts_well_among_all(town, sides)
        self.assertGreater(seen, 50)

    def test_great_towns(self):
        for number in range(3):
            town = great_town(number)
            self.parts_well_among_all(town, round_of(town)[0])


class NoRounds(unittest.TestCase):
    def refuses(self, town, sides):
        for many in MANIES:
            kept = list(sides)
            with self.assertRaises(NoRound, msg=(town, sides)) as caught:
                parted(town, sides, many)
            self.assertIs(caught.exception.__class__, NoRound)
            self.assertEqual(sides, kept)

    def test_no_walk(self):
        self.refuses(TOWN, ["main>", "main>", "main<"])
        self.refuses(TOWN, ["main>", "ring>", "main<"])
        self.refuses(TOWN, ["main>", "main<", "main<"])

    def test_a_banned_turn(self):
        parted(TOWN, ["main>", "lane>", "back>", "main<"], 2)
        self.refuses(BANNED, ["main>", "lane>", "back>", "main<"])

    def test_a_walk_that_does_not_begin_in_the_yards_corner(self):
        self.refuses(TOWN, ["main<"])
        self.refuses(TOWN, ["spin>", "main<"])
        self.refuses(TOWN, ["lane>", "back>", "main<", "main>", "main<"])

    def test_a_walk_that_does_not_end_there(self):
        self.refuses(TOWN, ["main>"])
        self.refuses(TOWN, ["main>", "main<", "main>"])
        self.refuses(TOWN, ["main>", "lane>"])

    def test_neither(self):
        self.refuses(TOWN, ["ring>"])
        for side in SIDES:
            self.refuses(("far", STREETS, ()), [side])

    def test_strangers(self):
        for text in NO_SIDES:
            self.refuses(TOWN, [text])
            self.refuses(TOWN, ["main>", text, "main<"])
            self.refuses(TOWN, ["main>", "main<", text])
            self.refuses(TOWN, [text, "main>", "main<"])
            self.refuses(EMPTY, [text])

    def test_a_round_of_another_town(self):
        self.refuses(FAR, ROUND)
        self.refuses(EMPTY, ["main>", "main<"])
        self.refuses(("b", STREETS, ()), ROUND)


class Keeping(unittest.TestCase):
    def test_what_is_handed_in_stays(self):
        for sides in ([], list(ROUND), list(AGAIN)):
            kept = list(sides)
            town = copy.deepcopy(TOWN)
            for many in MANIES:
                parted(town, sides, many)
            self.assertEqual(sides, kept)
            self.assertEqual(town, TOWN)

    def test_the_lists_are_the_askers_own(self):
        for sides in ([], list(ROUND)):
            for many in MANIES:
                told = parted(TOWN, sides, many)
                lists = [part for hand in told for part in hand]
                self.assertEqual(len({id(part) for part in lists + [sides]}), len(lists) + 1)
                kept = copy.deepcopy(told)
                for part in lists:
                    part.append("changed")
                self.assertEqual(parted(TOWN, sides, many), kept)

    def test_a_list_changed_later_changes_nothing_that_was_told(self):
        sides = list(ROUND)
        for many in MANIES:
            told = parted(TOWN, sides, many)
            kept = copy.deepcopy(told)
            sides.append("main>")
            sides.append("main<")
            self.assertEqual(told, kept)


if __name__ == "__main__":
    unittest.main()
