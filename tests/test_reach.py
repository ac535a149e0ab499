"""Walks, rounds, lengths, served sides and cuts: points [10] and [11], and the interface's part kerb/reach.py."""

import copy
import itertools
import unittest

from kerb.errors import Unknown
from kerb.reach import cut, is_round, is_walk, length_all, served
from kerb.towns import fits, sides_of
from tests.samples import (APART, BANS, EMPTY, LENGTHS, NO_SIDES, SIDES, STREETS, corners_of, is_allowed,
                           is_round_by_words, numbered_town)

TOWN = ("a", STREETS, BANS)

NEAR_AND_FAR = (("near", "a", "b", 5, 2), ("far", "b", "c", 6, 2))
# By bans alone: none comes from near into far; none comes home from far.
NO_WAY_OUT = ("a", NEAR_AND_FAR, (("near>", "far>"),))
NO_WAY_HOME = ("a", NEAR_AND_FAR, (("far<", "near<"),))


def allowed_from(town, one):
    return [other for other in corners_of(town) if is_allowed(town, one, other)]


def walk_of(town, starts, goals):
    waiting = [[start] for start in starts]
    seen = set(starts)
    while waiting:
        walk = waiting.pop(0)
        if walk[-1] in goals:
            return walk
        for other in allowed_from(town, walk[-1]):
            if other not in seen:
                seen.add(other)
                waiting.append(walk + [other])
    return None


def round_along(town, side):
    corners = corners_of(town)
    out = walk_of(town, [each for each in corners if corners[each][0] == town[0]], [side])
    home = walk_of(town, [side], [each for each in corners if corners[each][1] == town[0]])
    if out is None or home is None:
        return None
    return out + home[1:]


# A chain of streets, so that the far end is many turns away from the yard.
def long_town(many):
    names = ["".join(chr(ord("a") + int(figure)) for figure in str(k)) for k in range(many)]
    corners = ["c" + name for name in names] + ["end"]
    streets = tuple((name, corners[k], corners[k + 1], 10 ** 60 - 1, 2) for k, name in enumerate(names))
    return (corners[0], streets, ())


class Walks(unittest.TestCase):
    def walks(self, *sides):
        self.assertIs(is_walk(TOWN, list(sides)), True, sides)

    def walks_not(self, *sides):
        self.assertIs(is_walk(TOWN, list(sides)), False, sides)

    def test_the_list_without_sides(self):
        self.walks()
        self.assertIs(is_walk(EMPTY, []), True)

    def test_one_side(self):
        for side in SIDES:
            self.walks(side)

    def test_each_two_sides(self):
        for one in SIDES:
            for other in SIDES:
                self.assertIs(is_walk(TOWN, [one, other]), other in allowed_from(TOWN, one), (one, other))

    def test_more_sides(self):
        self.walks("main>", "spin>", "lane>", "ring>", "ring>", "back>", "main<", "main>")
        self.walks("ring<", "ring>", "ring>", "back>", "back<", "ring<")

    def test_each_turn_is_looked_at(self):
        self.walks_not("main>", "lane>", "back>", "main<")
        self.walks_not("main>", "spin>", "spin>", "main<")
        self.walks_not("main>", "spin>", "lane>", "ring>", "ring<")
        self.walks_not("lane>", "main>", "main<")
        self.walks_not("main>", "main<", "lane>")

    def test_the_first_side_is_turned_into_from_none(self):
        self.walks("spin>", "main<")
        self.walks("lane>", "back>")
        self.walks("main<", "main>", "main<")

    def test_from_the_last_side_one_need_not_turn_into_the_first(self):
        self.walks("lane>", "ring>")

    def test_strangers(self):
        for text in NO_SIDES:
            for told in (is_walk, is_round):
                for sides in ([text], [text, text], [text, "main>"], ["main>", text], ["main>", text, "main<"],
                              ["main>", "main<", text], [text, "main>", "main<"]):
                    self.assertIs(told(TOWN, sides), False, sides)
                self.assertIs(told(EMPTY, [text]), False, text)

    def test_a_walk_of_nine_hundred_sides(self):
        self.walks(*["main>", "main<"] * 450)
        self.walks_not(*["main>", "main<"] * 449, "main>", "main>")
        self.walks_not(*["main>", "main<"] * 449, "main>", "other>")
        self.walks(*["ring>"] * 900)


class Rounds(unittest.TestCase):
    def rounds(self, *sides):
        self.assertIs(is_round(TOWN, list(sides)), True, sides)

    def rounds_not(self, *sides):
        self.assertIs(is_round(TOWN, list(sides)), False, sides)

    def test_the_list_without_sides(self):
        self.rounds()
        self.assertIs(is_round(EMPTY, []), True)
        self.assertIs(is_round(("far", STREETS, ()), []), True)

    def test_rounds(self):
        self.rounds("main>", "main<")
        self.rounds("main>", "spin>", "lane>", "ring<", "ring>", "back>", "main<")

    def test_one_side(self):
        for side in SIDES:
            self.rounds_not(side)
        loops = ("a", (("l", "a", "a", 1, 2), ("o", "a", "a", 1, 1), ("p", "b", "b", 1, 1)), ())
        for side in ("l>", "l<", "o>"):
            self.assertIs(is_round(loops, [side]), True)
        self.assertIs(is_round(loops, ["p>"]), False)

    def test_a_walk_that_starts_off_the_yards_corner(self):
        self.rounds_not("spin>", "main<")
        self.rounds_not("main<")
        self.rounds_not("main<", "main>", "main<")

    def test_a_walk_that_ends_off_the_yards_corner(self):
        self.rounds_not("main>", "spin>")
        self.rounds_not("main>", "main<", "main>")

    def test_a_walk_that_starts_and_ends_in_another_corner(self):
        self.rounds_not("spin>")
        self.rounds_not("lane>", "back>")
        self.rounds_not("main<", "main>")
        self.assertIs(is_round(("b", STREETS, ()), ["main<", "main>"]), True)

    def test_what_is_no_walk(self):
        self.rounds_not("main>", "lane>", "back>", "main<")
        self.rounds_not("main>", "main>", "main<")
        self.rounds_not("main>", "lane>", "main<")

    def test_each_list_of_few_sides_and_the_yard_in_each_corner(self):
        seen = {True: 0, False: 0}
        for yard in ("a", "b", "c", "bb"):
            town = (yard, STREETS, tuple(ban for ban in BANS if corners_of(TOWN)[ban[0]][1] != yard))
            self.assertIs(fits(town), True)
            for many in range(4):
                for sides in itertools.product(SIDES, repeat=many):
                    told = is_round_by_words(town, list(sides))
                    seen[told] += 1
                    self.assertIs(is_round(town, list(sides)), told, (town, sides))
        self.assertGreater(min(seen.values()), 40)

    def test_two_rounds_one_behind_the_other(self):
        one = ["main>", "main<"]
        other = ["main>", "spin>", "lane>", "back>", "main<"]
        for sides in (one + one, one + other, other + one, other + other, one + other + one):
            self.rounds(*sides)

    def test_a_round_of_nine_hundred_sides(self):
        self.rounds(*["main>", "main<"] * 450)
        self.rounds_not(*["main>", "main<"] * 449, "main>", "spin>")

    def test_no_round_where_the_yard_is_at_no_street(self):
        for side in SIDES:
            self.assertIs(is_round(("far", STREETS, ()), [side]), False)


class Lengths(unittest.TestCase):
    def test_of_none(self):
        self.assertEqual(length_all(TOWN, []), 0)
        self.assertEqual(length_all(EMPTY, []), 0)
        self.assertIs(length_all(EMPTY, []).__class__, int)

    def test_of_one(self):
        self.assertEqual([length_all(TOWN, [side]) for side in SIDES], LENGTHS)

    def test_of_a_walk(self):
        self.assertEqual(length_all(TOWN, ["main>", "spin>", "lane>", "ring>", "back>", "main<"]), 26)

    def test_of_sides_that_are_no_walk(self):
        self.assertEqual(length_all(TOWN, SIDES), sum(LENGTHS))
        self.assertEqual(length_all(TOWN, ["main>", "lane>"]), 12)
        self.assertEqual(length_all(TOWN, ["ring<", "main<", "main<"]), 13)

    def test_a_side_counts_as_often_as_it_stands_there(self):
        self.assertEqual(length_all(TOWN, ["main>", "main<"] * 450), 4500)
        self.assertEqual(length_all(TOWN, ["spin>"] * 3), 12)

    def test_lengths_of_sixty_figures(self):
        town = ("a", (("s", "a", "b", 10 ** 60 - 1, 2), ("t", "a", "b", 1, 1)), ())
        self.assertEqual(length_all(town, ["s>", "s<"] * 450), 900 * 10 ** 60 - 900)
        self.assertEqual(length_all(town, ["s>", "t>"]), 10 ** 60)

    def test_strangers(self):
        for text in NO_SIDES:
            for sides in ([text], [text, text], [text, "main>"], ["main>", text], ["main>", text, "main<"]):
                with self.assertRaises(Unknown, msg=sides):
                    length_all(TOWN, sides)
            with self.assertRaises(Unknown, msg=text):
                length_all(EMPTY, [text])


class Reaching(unittest.TestCase):
    # By the words of point [11].
    def shows(self, town, side, told):
        corners = corners_of(town)
        self.assertIs(told.__class__, tuple)
        word, some = told
        self.assertIs(some.__class__, list)
        self.assertEqual(some, [each for each in sides_of(town) if each in some])
        for one in some:
            for other in allowed_from(town, one):
                self.assertIn(other, some)
        self.assertIn(word, ("out", "home"))
        if word == "out":
            self.assertNotIn(side, some)
            self.assertEqual([each for each in corners if corners[each][0] == town[0] and each not in some], [])
        else:
            self.assertIn(side, some)
            self.assertEqual([each for each in some if corners[each][1] == town[0]], [])

    def tells(self, town, told):
        self.assertIs(fits(town), True, town)
        self.assertEqual(served(town), told, town)
        for side in sides_of(town):
            if side in told:
                self.assertIsNone(cut(town, side), (town, side))
            else:
                self.shows(town, side, cut(town, side))

    def tells_words(self, town, words):
        for side, word in words:
            self.assertEqual(cut(town, side)[0], word, side)


class Served(Reaching):
    def test_a_town_all_of_which_is_served(self):
        self.tells(TOWN, SIDES)
        self.tells(("a", STREETS, ()), SIDES)

    def test_a_town_without_streets(self):
        self.tells(EMPTY, [])

    def test_a_yard_at_no_street(self):
        self.tells(("far", STREETS, BANS), [])
        self.tells(("far", STREETS, ()), [])
        for side in SIDES:
            self.assertIn(cut(("far", STREETS, ()), side)[0], ("out", "home"))

    def test_one_street(self):
        self.tells(("a", (("s", "a", "b", 1, 2),), ()), ["s>", "s<"])
        self.tells(("b", (("s", "a", "b", 1, 2),), ()), ["s>", "s<"])
        self.tells(("a", (("s", "a", "b", 1, 1),), ()), [])
        self.tells(("b", (("s", "a", "b", 1, 1),), ()), [])
        self.tells(("a", (("s", "a", "b", 1, 2),), (("s>", "s<"),)), [])

    def test_a_loop(self):
        self.tells(("a", (("s", "a", "a", 1, 1),), ()), ["s>"])
        self.tells(("a", (("s", "a", "a", 1, 2),), ()), ["s>", "s<"])
        self.tells(("a", (("s", "b", "b", 1, 2),), ()), [])

    def test_streets_that_are_come_to_and_lead_to_no_way_home(self):
        town = ("a", APART[1][:3], ())
        self.tells(town, ["main>", "main<"])
        self.tells_words(town, (("away>", "home"), ("end>", "home"), ("end<", "home")))

    def test_streets_that_lead_home_and_cannot_be_come_to(self):
        town = ("a", (APART[1][0], APART[1][3], ("to", "f", "e", 1, 1)), ())
        self.tells(town, ["main>", "main<"])
        self.tells_words(town, (("from>", "out"), ("to>", "out")))

    def test_both_in_one_town(self):
        self.tells(APART, ["main>", "main<"])
        self.tells_words(APART, (("away>", "home"), ("end>", "home"), ("end<", "home"), ("from>", "out")))

    def test_bans_alone_keep_one_from_coming_there(self):
        self.tells(("a", NEAR_AND_FAR, ()), ["near>", "near<", "far>", "far<"])
        self.tells(NO_WAY_OUT, ["near>", "near<"])
        self.tells_words(NO_WAY_OUT, (("far>", "out"), ("far<", "out")))

    def test_bans_alone_keep_one_from_coming_home(self):
        self.tells(NO_WAY_HOME, ["near>", "near<"])
        self.tells_words(NO_WAY_HOME, (("far>", "home"), ("far<", "home")))

    def test_bans_keep_both_apart(self):
        self.tells(("a", NEAR_AND_FAR, (("near>", "far>"), ("far<", "near<"))), ["near>", "near<"])
        self.tells(("a", NEAR_AND_FAR, (("near>", "near<"),)), ["near>", "near<", "far>", "far<"])
        self.tells(("a", NEAR_AND_FAR, (("near>", "near<"), ("near>", "far>"))), [])
        self.tells(("a", NEAR_AND_FAR, (("far>", "far<"),)), ["near>", "near<"])

    def test_a_corner_that_one_leaves_as_one_comes(self):
        # Both lanes out meet in b; only from the second one may turn into the lane home.
        streets = (("one", "a", "b", 1, 1), ("two", "a", "b", 1, 1), ("home", "b", "a", 1, 1))
        self.tells(("a", streets, (("one>", "home>"),)), ["two>", "home>"])
        self.tells(("a", streets, (("two>", "home>"),)), ["one>", "home>"])
        self.tells(("a", streets, ()), ["one>", "two>", "home>"])

    def test_a_way_round_a_ban(self):
        streets = NEAR_AND_FAR + (("loop", "b", "b", 1, 1),)
        self.tells(("a", streets, (("near>", "far>"),)), ["near>", "near<", "far>", "far<", "loop>"])
        self.tells(("a", streets, (("near>", "far>"), ("loop>", "far>"))), ["near>", "near<", "loop>"])

    def test_served_one_side_of_a_street_and_not_the_other(self):
        streets = (("s", "a", "b", 1, 2), ("t", "b", "a", 1, 1))
        self.tells(("a", streets, (("s>", "s<"),)), ["s>", "t>"])
        self.tells(("a", streets, (("s>", "t>"),)), ["s>", "s<"])

    def test_the_order_is_the_streets_own(self):
        self.tells(("a", tuple(reversed(STREETS)), BANS),
                   ["spin>", "ring>", "ring<", "back>", "back<", "lane>", "main>", "main<"])
        self.tells(("a", tuple(reversed(APART[1])), ()), ["main>", "main<"])
        self.tells(("a", tuple(reversed(NEAR_AND_FAR)), NO_WAY_HOME[2]), ["near>", "near<"])

    def test_many_towns(self):
        seen = {}
        for number in range(400):
            town = numbered_town(number)
            rounds = {side: round_along(town, side) for side in sides_of(town)}
            for side in rounds:
                if rounds[side] is not None:
                    self.assertIs(is_round(town, rounds[side]), True)
            self.tells(town, [side for side in sides_of(town) if rounds[side] is not None])
            for side in sides_of(town):
                told = cut(town, side)
                word = "served" if told is None else told[0]
                seen[word] = seen.get(word, 0) + 1
        for word in ("served", "out", "home"):
            self.assertGreater(seen[word], 100)

    def test_a_town_of_thirty_streets(self):
        town = long_town(30)
        self.tells(town, sides_of(town))
        last = sides_of(town)[-2:]
        barred = (town[0], town[1], ((sides_of(town)[-4], last[0]),))
        self.tells(barred, sides_of(town)[:-2])
        self.tells(("nowhere", town[1], ()), [])


class Strangers(unittest.TestCase):
    def test_a_strangers_cut(self):
        for town in (TOWN, APART, EMPTY, ("far", STREETS, ())):
            for text in NO_SIDES:
                if text not in sides_of(town):
                    with self.assertRaises(Unknown, msg=repr(text)):
                        cut(town, text)

    def test_the_back_side_of_a_lane(self):
        for side in ("away<", "from<"):
            with self.assertRaises(Unknown):
                cut(APART, side)


class Keeping(Reaching):
    def test_a_told_list_is_the_askers_own(self):
        for told in (lambda: served(APART), lambda: cut(APART, "away>")[1], lambda: cut(APART, "from>")[1]):
            kept = copy.deepcopy(told())
            first = told()
            first.append("changed")
            first[0] = "changed"
            first.clear()
            for side in sides_of(APART):
                if cut(APART, side) is not None:
                    self.shows(APART, side, cut(APART, side))
            self.assertEqual(served(APART), ["main>", "main<"])
            self.assertEqual(len(told()), len(kept))
            self.assertIsNot(told(), told())

    def test_a_list_handed_in_stays_as_it_is(self):
        for sides in ([], ["main>", "main<"], ["main>", "lane>"], ["other>"], ["lane>", "main>", "main<"]):
            kept = list(sides)
            is_walk(TOWN, sides)
            is_round(TOWN, sides)
            try:
                length_all(TOWN, sides)
            except Unknown:
                pass
            self.assertEqual(sides, kept)

    def test_a_list_changed_later_changes_nothing(self):
        sides = ["main>", "main<"]
        self.assertIs(is_round(TOWN, sides), True)
        self.assertEqual(length_all(TOWN, sides), 10)
        sides.append("spin>")
        self.assertIs(is_round(TOWN, sides), False)
        self.assertIs(is_round(TOWN, ["main>", "main<"]), True)
        self.assertEqual(length_all(TOWN, ["main>", "main<"]), 10)

    def test_a_town_handed_in_stays_as_it_is(self):
        for town in (TOWN, APART, NO_WAY_OUT, NO_WAY_HOME):
            kept = copy.deepcopy(town)
            served(town).clear()
            for side in sides_of(town):
                cut(town, side)
            self.assertEqual(town, kept)


if __name__ == "__main__":
    unittest.main()
