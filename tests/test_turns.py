"""Turns: point [8], from "From a side one may turn" on, and the interface's row "turns"."""

import copy
import unittest

from kerb.errors import Unknown
from kerb.towns import fits, sides_of
from kerb.turns import may_turn, turns_from, turns_into
from tests.samples import BANS, EMPTY, NO_SIDES, SIDES, STREETS, is_allowed, numbered_town

TOWN = ("a", STREETS, BANS)
WITHOUT_BANS = ("a", STREETS, ())

FROM_B = ["main<", "lane>", "back<", "spin>"]
FROM_C = ["back>", "ring>", "ring<"]
FROM_WITHOUT_BANS = {
    "main>": FROM_B, "main<": ["main>"], "lane>": FROM_C, "back>": FROM_B, "back<": FROM_C,
    "ring>": FROM_C, "ring<": FROM_C, "spin>": FROM_B,
}
INTO_B = ["main>", "back>", "spin>"]
INTO_C = ["lane>", "back<", "ring>", "ring<"]
INTO_WITHOUT_BANS = {
    "main>": ["main<"], "main<": INTO_B, "lane>": INTO_B, "back>": INTO_C, "back<": INTO_B,
    "ring>": INTO_C, "ring<": INTO_C, "spin>": INTO_B,
}
FROM = {
    "main>": ["main<", "back<", "spin>"], "main<": ["main>"], "lane>": ["back>", "ring>", "ring<"],
    "back>": ["main<", "lane>", "back<", "spin>"], "back<": ["ring>", "ring<"], "ring>": ["back>", "ring>"],
    "ring<": ["back>", "ring>", "ring<"], "spin>": ["main<", "lane>", "back<"],
}
INTO = {
    "main>": ["main<"], "main<": ["main>", "back>", "spin>"], "lane>": ["back>", "spin>"],
    "back>": ["lane>", "ring>", "ring<"], "back<": ["main>", "back>", "spin>"],
    "ring>": ["lane>", "back<", "ring>", "ring<"], "ring<": ["lane>", "back<", "ring<"], "spin>": ["main>", "back>"],
}


class Turns(unittest.TestCase):
    def test_from_each_side(self):
        for side in SIDES:
            self.assertEqual(turns_from(TOWN, side), FROM[side], side)
            self.assertEqual(turns_from(WITHOUT_BANS, side), FROM_WITHOUT_BANS[side], side)

    def test_into_each_side(self):
        for side in SIDES:
            self.assertEqual(turns_into(TOWN, side), INTO[side], side)
            self.assertEqual(turns_into(WITHOUT_BANS, side), INTO_WITHOUT_BANS[side], side)

    def test_each_two_sides(self):
        for one in SIDES:
            for other in SIDES:
                self.assertIs(may_turn(TOWN, one, other), other in FROM[one], (one, other))
                self.assertIs(may_turn(WITHOUT_BANS, one, other), other in FROM_WITHOUT_BANS[one], (one, other))

    def test_into_itself_where_a_side_ends_where_it_begins(self):
        self.assertIs(may_turn(TOWN, "ring>", "ring>"), True)
        self.assertIs(may_turn(TOWN, "ring<", "ring<"), True)
        self.assertIs(may_turn(WITHOUT_BANS, "spin>", "spin>"), True)
        self.assertIs(may_turn(TOWN, "main>", "main>"), False)
        self.assertIs(may_turn(TOWN, "lane>", "lane>"), False)

    def test_into_itself_where_that_is_banned(self):
        self.assertIs(may_turn(TOWN, "spin>", "spin>"), False)
        self.assertNotIn("spin>", turns_from(TOWN, "spin>"))
        self.assertNotIn("spin>", turns_into(TOWN, "spin>"))

    def test_a_loop_in_the_yards_corner(self):
        town = ("a", (("l", "a", "a", 1, 2), ("o", "a", "a", 1, 1)), ())
        for side in ("l>", "l<", "o>"):
            self.assertEqual(turns_from(town, side), ["l>", "l<", "o>"])
            self.assertEqual(turns_into(town, side), ["l>", "l<", "o>"])

    def test_back_along_the_same_street(self):
        self.assertIs(may_turn(TOWN, "main>", "main<"), True)
        self.assertIs(may_turn(TOWN, "main<", "main>"), True)
        self.assertIs(may_turn(TOWN, "back>", "back<"), True)

    def test_a_turn_that_is_banned_one_way_and_not_the_other(self):
        self.assertIs(may_turn(TOWN, "back<", "back>"), False)
        self.assertIs(may_turn(TOWN, "back>", "back<"), True)
        self.assertIs(may_turn(TOWN, "ring>", "ring<"), False)
        self.assertIs(may_turn(TOWN, "ring<", "ring>"), True)

    def test_a_ban_is_of_the_two_sides_and_not_of_their_streets(self):
        town = ("x", (("s", "a", "b", 1, 2), ("t", "b", "c", 1, 2), ("u", "a", "b", 1, 1)), (("s>", "t>"),))
        self.assertIs(may_turn(town, "s>", "t>"), False)
        self.assertIs(may_turn(town, "t<", "s<"), True)
        self.assertIs(may_turn(town, "u>", "t>"), True)
        self.assertEqual(turns_from(town, "s>"), ["s<"])
        self.assertEqual(turns_into(town, "t>"), ["t<", "u>"])

    def test_a_lane_is_gone_along_one_way(self):
        town = ("a", (("s", "a", "b", 1, 1), ("t", "b", "c", 1, 1)), ())
        self.assertEqual(turns_from(town, "s>"), ["t>"])
        self.assertEqual(turns_into(town, "t>"), ["s>"])
        self.assertEqual(turns_from(town, "t>"), [])
        self.assertEqual(turns_into(town, "s>"), [])
        self.assertIs(may_turn(town, "t>", "s>"), False)

    def test_lanes_that_end_in_one_corner_do_not_lead_into_one_another(self):
        town = ("a", (("s", "a", "b", 1, 1), ("t", "c", "b", 1, 1)), ())
        self.assertIs(may_turn(town, "s>", "t>"), False)
        self.assertIs(may_turn(town, "t>", "s>"), False)

    def test_the_order_is_the_streets_own(self):
        turned = ("a", tuple(reversed(STREETS)), BANS)
        self.assertEqual(turns_from(turned, "lane>"), ["ring>", "ring<", "back>"])
        self.assertEqual(turns_into(turned, "ring>"), ["ring>", "ring<", "back<", "lane>"])

    def test_the_bans_order_is_none_of_the_lists(self):
        turned = ("a", STREETS, tuple(reversed(BANS)))
        for side in SIDES:
            self.assertEqual(turns_from(turned, side), FROM[side])
            self.assertEqual(turns_into(turned, side), INTO[side])

    def test_many_towns(self):
        for number in range(120):
            town = numbered_town(number)
            self.assertIs(fits(town), True, town)
            sides = sides_of(town)
            for side in sides:
                self.assertEqual(turns_from(town, side), [other for other in sides if is_allowed(town, side, other)])
                self.assertEqual(turns_into(town, side), [one for one in sides if is_allowed(town, one, side)])
                for other in sides:
                    self.assertIs(may_turn(town, side, other), is_allowed(town, side, other))

    def test_a_town_of_thirty_streets_and_twenty_bans(self):
        names = [chr(ord("a") + k // 6) + chr(ord("a") + k % 6) for k in range(30)]
        streets = tuple((name, "x", "x", 10 ** 60 - 1, 2) for name in names)
        bans = tuple(("aa>", name + "<") for name in names[:20])
        town = ("y", streets, bans)
        sides = sides_of(town)
        self.assertEqual(turns_from(town, "aa>"), [side for side in sides if ("aa>", side) not in bans])
        self.assertEqual(turns_into(town, "aa<"), [side for side in sides if side != "aa>"])
        self.assertEqual(turns_from(town, "aa<"), sides)


class Strangers(unittest.TestCase):
    def test_lists_of_strangers(self):
        for asked in (turns_from, turns_into):
            for town in (TOWN, WITHOUT_BANS, EMPTY):
                for text in NO_SIDES:
                    with self.assertRaises(Unknown, msg=repr(text)):
                        asked(town, text)

    def test_a_stranger_as_the_first_side(self):
        for text in NO_SIDES:
            for side in SIDES:
                with self.assertRaises(Unknown, msg=repr(text)):
                    may_turn(TOWN, text, side)

    def test_a_stranger_as_the_second_side(self):
        for text in NO_SIDES:
            for side in SIDES:
                with self.assertRaises(Unknown, msg=repr(text)):
                    may_turn(TOWN, side, text)

    def test_two_strangers(self):
        for text in NO_SIDES:
            for town in (TOWN, EMPTY):
                with self.assertRaises(Unknown, msg=repr(text)):
                    may_turn(town, text, text)

    def test_a_town_without_streets_knows_no_side(self):
        for asked in (turns_from, turns_into):
            with self.assertRaises(Unknown):
                asked(EMPTY, "main>")
        with self.assertRaises(Unknown):
            may_turn(EMPTY, "main>", "main<")


class Keeping(unittest.TestCase):
    def test_a_told_list_is_the_askers_own(self):
        for asked, table in ((turns_from, FROM), (turns_into, INTO)):
            for side in SIDES:
                first = asked(TOWN, side)
                second = asked(TOWN, side)
                self.assertIs(first.__class__, list)
                first.append("lane<")
                first[0] = "changed"
                self.assertEqual(second, table[side])
                self.assertEqual(asked(TOWN, side), table[side])
                first.clear()
                self.assertEqual(asked(TOWN, side), table[side])
        self.assertIs(may_turn(TOWN, "main>", "main<"), True)

    def test_a_town_handed_in_stays_as_it_is(self):
        kept = copy.deepcopy(TOWN)
        for side in SIDES:
            turns_from(TOWN, side).clear()
            turns_into(TOWN, side).clear()
            may_turn(TOWN, side, "ring>")
        self.assertEqual(TOWN, kept)

    def test_towns_do_not_mix(self):
        other = ("b", (("main", "x", "y", 9, 1),), ())
        self.assertEqual(turns_from(TOWN, "main>"), FROM["main>"])
        self.assertEqual(turns_from(other, "main>"), [])
        self.assertEqual(turns_from(TOWN, "main>"), FROM["main>"])
        with self.assertRaises(Unknown):
            turns_from(other, "main<")


if __name__ == "__main__":
    unittest.main()
