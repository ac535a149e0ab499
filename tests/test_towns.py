"""Towns: points [6], [7] and [8], and the interface's row "towns"."""

import copy
import unittest

from kerb.errors import Unfit, Unknown
from kerb.towns import begin_of, end_of, fits, fitted, length_of, sides_of
from tests.samples import BEGINS, ENDS, LENGTHS, NO_SIDES, SIDES, STREETS

BANS = (("main>", "lane>"), ("lane>", "back>"), ("ring>", "ring<"), ("spin>", "spin>"))
TOWN = ("a", STREETS, BANS)


def with_street(length, ways):
    return ("a", (("s", "a", "b", length, ways),), ())


def with_bans(*bans):
    return ("a", STREETS, bans)


class Asking(unittest.TestCase):
    def takes(self, town):
        self.assertIs(fits(town), True, town)
        self.assertEqual(fitted(town), town)

    def refuses(self, town):
        self.assertIs(fits(town), False, town)
        with self.assertRaises(Unfit, msg=town):
            fitted(town)


class Fitting(Asking):
    def test_a_town(self):
        self.takes(TOWN)
        self.takes(with_bans())

    def test_a_town_without_streets(self):
        self.takes(("a", (), ()))
        self.refuses(("a", (), (("s>", "s>"),)))

    def test_a_yard_where_no_street_comes(self):
        self.takes(("far", STREETS, BANS))

    def test_a_town_whose_streets_do_not_meet(self):
        self.takes(("a", (("s", "a", "b", 1, 2), ("t", "c", "d", 1, 1)), ()))

    def test_a_street_named_like_a_corner(self):
        self.takes(("a", (("a", "a", "b", 1, 2), ("b", "a", "a", 1, 1)), ()))

    def test_a_town_of_thirty_streets_and_twenty_bans(self):
        names = [chr(ord("a") + k // 6) + chr(ord("a") + k % 6) for k in range(30)]
        streets = tuple((name, "x", "x", 10 ** 60 - 1, 2) for name in names)
        bans = tuple((names[k] + ">", names[k + 1] + "<") for k in range(20))
        self.takes(("a", streets, bans))
        self.refuses(("x", streets, bans))

    def test_a_name_that_stands_twice(self):
        street = ("s", "a", "b", 1, 2)
        between = ("t", "b", "c", 1, 2)
        self.refuses(("a", (street, street), ()))
        self.refuses(("a", (street, between, street), ()))
        self.refuses(("a", (street, ("s", "c", "d", 9, 1)), ()))
        self.refuses(("a", (("s", "a", "b", 1, 1), ("s", "b", "a", 1, 1)), ()))
        self.takes(("a", (street, ("ss", "a", "b", 1, 2)), ()))

    def test_lengths(self):
        for length in (1, 2, 10, 10 ** 59, 10 ** 60 - 1):
            self.takes(with_street(length, 1))
            self.takes(with_street(length, 2))

    def test_lengths_of_nought_and_below(self):
        for length in (0, -1, -2, -(10 ** 60 - 1)):
            self.refuses(with_street(length, 1))
            self.refuses(with_street(length, 2))

    def test_a_length_beyond_sixty_figures_is_not_refused(self):
        self.takes(with_street(10 ** 60, 2))

    def test_ways(self):
        for ways in (-(10 ** 60), -2, -1, 0, 3, 4, 12, 21, 10 ** 60):
            self.refuses(with_street(1, ways))

    def test_a_truth_is_no_whole_number(self):
        self.refuses(with_street(True, 2))
        self.refuses(with_street(1, True))

    def test_each_street_is_looked_at(self):
        good = [(name, "a", "b", 1, 2) for name in ("s", "t", "u")]
        for place in range(3):
            for length, ways in ((0, 2), (-1, 1), (1, 0), (1, 3)):
                streets = list(good)
                streets[place] = (good[place][0], "a", "b", length, ways)
                self.refuses(("a", tuple(streets), ()))


class Bans(Asking):
    def test_each_two_sides(self):
        for one, end in zip(SIDES, ENDS):
            for other, begin in zip(SIDES, BEGINS):
                if end == begin and end != "a":
                    self.takes(with_bans((one, other)))
                else:
                    self.refuses(with_bans((one, other)))

    def test_sides_that_do_not_meet(self):
        self.refuses(with_bans(("lane>", "main<")))
        self.refuses(with_bans(("lane>", "main>")))

    def test_sides_that_meet_the_other_way_round(self):
        self.takes(("x", (("s", "a", "b", 1, 1), ("t", "b", "c", 1, 1)), (("s>", "t>"),)))
        self.refuses(("x", (("s", "a", "b", 1, 1), ("t", "b", "c", 1, 1)), (("t>", "s>"),)))

    def test_sides_that_meet_in_the_yards_corner(self):
        self.refuses(with_bans(("main<", "main>")))
        self.refuses(("b", STREETS, (("main>", "lane>"),)))
        self.refuses(("b", STREETS, (("spin>", "spin>"),)))
        self.takes(("b", STREETS, (("main<", "main>"),)))

    def test_back_along_the_same_street(self):
        self.takes(with_bans(("main>", "main<")))
        self.takes(with_bans(("back>", "back<"), ("back<", "back>")))

    def test_a_loop_into_itself(self):
        self.takes(with_bans(("ring>", "ring>"), ("ring>", "ring<"), ("ring<", "ring>"), ("ring<", "ring<")))

    def test_what_is_no_side_of_the_town(self):
        for text in NO_SIDES:
            self.refuses(with_bans((text, "ring>")))
            self.refuses(with_bans(("ring>", text)))
            self.refuses(with_bans((text, text)))
            self.refuses(with_bans(("ring>", "ring<"), ("ring>", text)))

    def test_the_back_side_of_a_lane(self):
        self.refuses(with_bans(("lane<", "back<")))
        self.refuses(with_bans(("ring>", "lane<")))
        self.refuses(with_bans(("spin<", "spin>")))

    def test_a_ban_that_stands_twice(self):
        ban = ("main>", "lane>")
        self.refuses(with_bans(ban, ban))
        self.refuses(with_bans(ban, ("ring>", "ring<"), ("".join(["main", ">"]), "lane>")))

    def test_bans_that_share_a_side_are_other_bans(self):
        self.takes(with_bans(("main>", "lane>"), ("main>", "spin>"), ("spin>", "lane>")))

    def test_each_ban_is_looked_at(self):
        for place in range(len(BANS)):
            bans = list(BANS)
            bans[place] = ("lane>", "main<")
            self.refuses(("a", STREETS, tuple(bans)))


class Sides(unittest.TestCase):
    def test_the_sides_in_their_order(self):
        self.assertEqual(sides_of(TOWN), SIDES)

    def test_the_order_is_the_streets_own(self):
        turned = ("a", tuple(reversed(STREETS)), BANS)
        self.assertEqual(sides_of(turned), ["spin>", "ring>", "ring<", "back>", "back<", "lane>", "main>", "main<"])

    def test_bans_and_the_yard_take_no_side_away(self):
        self.assertEqual(sides_of(("far", STREETS, ())), SIDES)

    def test_a_town_without_streets_has_no_sides(self):
        self.assertEqual(sides_of(("a", (), ())), [])

    def test_where_each_begins_and_ends_and_how_long_it_is(self):
        self.assertEqual([begin_of(TOWN, side) for side in SIDES], BEGINS)
        self.assertEqual([end_of(TOWN, side) for side in SIDES], ENDS)
        self.assertEqual([length_of(TOWN, side) for side in SIDES], LENGTHS)

    def test_a_length_of_sixty_figures(self):
        for length in (1, 10 ** 59, 10 ** 60 - 1):
            town = with_street(length, 2)
            for side in ("s>", "s<"):
                self.assertEqual(length_of(town, side), length)
                self.assertIs(length_of(town, side).__class__, int)

    def test_what_is_no_side_of_the_town(self):
        for asked in (begin_of, end_of, length_of):
            for text in NO_SIDES:
                with self.assertRaises(Unknown, msg=repr(text)):
                    asked(TOWN, text)
                with self.assertRaises(Unknown, msg=repr(text)):
                    asked(("a", (), ()), text)

    def test_the_back_side_of_a_lane(self):
        for asked in (begin_of, end_of, length_of):
            with self.assertRaises(Unknown):
                asked(TOWN, "lane<")


class Keeping(unittest.TestCase):
    def test_a_told_list_is_the_askers_own(self):
        first = sides_of(TOWN)
        second = sides_of(TOWN)
        self.assertIs(first.__class__, list)
        first.append("lane<")
        first[0] = "changed"
        self.assertEqual(second, SIDES)
        self.assertEqual(sides_of(TOWN), SIDES)
        self.assertEqual(begin_of(TOWN, "main>"), "a")
        with self.assertRaises(Unknown):
            begin_of(TOWN, "lane<")
        first.clear()
        self.assertEqual(sides_of(TOWN), SIDES)
        self.assertIs(fits(TOWN), True)

    def test_towns_do_not_mix(self):
        other = ("b", (("main", "x", "y", 9, 1),), ())
        self.assertEqual(sides_of(TOWN), SIDES)
        self.assertEqual(sides_of(other), ["main>"])
        self.assertEqual((begin_of(other, "main>"), end_of(other, "main>"), length_of(other, "main>")), ("x", "y", 9))
        self.assertEqual((begin_of(TOWN, "main>"), end_of(TOWN, "main>"), length_of(TOWN, "main>")), ("a", "b", 5))
        with self.assertRaises(Unknown):
            length_of(other, "main<")

    def test_a_town_handed_in_stays_as_it_is(self):
        kept = copy.deepcopy(TOWN)
        told = fitted(TOWN)
        for asked in (begin_of, end_of, length_of):
            asked(TOWN, "ring<")
        sides_of(TOWN).clear()
        self.assertEqual(TOWN, kept)
        self.assertEqual(told, kept)


if __name__ == "__main__":
    unittest.main()
