"""The desk: point [26], and the rows that the interface's part kerb/desk.py lists."""

import itertools
import re
import unittest
from unittest import mock

from kerb.desk import Desk
from kerb.errors import KerbError, NoText, NoTown, Unfit, Unknown
from kerb.hands import parted
from kerb.pairing import bound
from kerb.reach import cut, served
from kerb.rounds import round_of
from kerb.tellings import read_round, tell
from kerb.towns import sides_of
from kerb.writer import show
from tests.samples import (APART, BANS, EMPTY, FAR, NO_TEXTS, STREETS, great_town, is_round_by_words, lane_town,
                           lengths_of, looped_town, numbered_town, served_by_words, some_names, town_without)

TOWN = ("a", STREETS, BANS)
GREAT = 10 ** 60 - 1

# A street at the yard; a lane that may be come to only over a third street, since the turn into it is banned.
SMALL = ("a", (("main", "a", "b", 5, 2), ("lane", "b", "a", 7, 1), ("away", "b", "c", 2, 1)), (("main>", "lane>"),))
SMALL_ROW = "town yard a;street main a b 5;lane lane b a 7;lane away b c 2;ban main> lane>"

OF_A_ROUND = ("round", "parts", "long", "tell", "hands 1", "hands 4", "hands 9")
OF_A_TOWN = ("served", "bound", "cut main>", "cut lane>", "shut main", "open main") + OF_A_ROUND
NO_ROWS = (
    "", " ", "ok", "-", "town", "yard a", "serve", "serveds", "cut", "shut", "open", "hands", "bounds", "rounds", "part",
    "longer", "told", "length", "least", "walk", "close main", "help", "quit", "shut main>", "open main<", "cut main",
    "cut >", "cut main>>", "cut main> main<", "cut -", "shut -", "shut main lane", "open main lane", "shut abcdefghi",
    "open abcdefghi", "cut abcdefghi>", "shut Main", "open MAIN", "cut Main>", "shut m1", "shut main;", "hands 0",
    "hands 10", "hands 01", "hands 1 1", "hands -1", "hands +1", "hands 1.0", "hands one", "hands a", "hands 12",
    "hands 99", "hands \u0661", "hands \u00b2", "hands 1;", "served;bound", "served main", "round 1", "parts 1", "long 1",
    "tell 1", "bound 1", "served>", "main>", "main", "served\tbound", "town\tyard a", "townyard a", "town;yard a",
    "TOWN yard a", "Town yard a", "towns yard a",
)

# The rows that need a town, as a whole.
FORM = re.compile("served|bound|round|parts|long|tell|(shut|open) [a-z]{1,8}|cut [a-z]{1,8}[<>]|hands [1-9]")


def row_of(town):
    return "town " + show(town).replace("\n", ";")


def desk_of(town, names=()):
    desk = Desk()
    desk.say(row_of(town))
    for name in names:
        desk.say("shut " + name)
    return desk


# The rows that a desk may answer of a town, in a fixed order.
def all_answers(desk, town):
    rows = ["served", "bound", *OF_A_ROUND] + ["hands " + str(many) for many in range(1, 10)]
    rows += ["cut " + side for side in sides_of(town)]
    return [(row, answer_or_refusal(desk, row)) for row in rows]


def answer_or_refusal(desk, row):
    try:
        return desk.say(row)
    except KerbError as refusal:
        return refusal.__class__.__name__


class Asking(unittest.TestCase):
    def says(self, desk, row, answer):
        told = desk.say(row)
        self.assertIs(told.__class__, str, row)
        self.assertEqual(told, answer, row)

    def refuses(self, desk, row, refusal):
        with self.assertRaises(refusal, msg=repr(row)[:200]) as caught:
            desk.say(row)
        self.assertIs(caught.exception.__class__, refusal, row)

    # All that it answers of a round is of one round of the town, whatever is asked first.
    def answers_of_one_round(self, desk, town, order):
        told = {row: desk.say(row) for row in order}
        sides = [] if told["round"] == "-" else told["round"].split(" ")
        lengths = lengths_of(town)
        long = sum(lengths[side] for side in sides)
        self.assertTrue(is_round_by_words(town, sides))
        self.assertLessEqual(set(served_by_words(town)), set(sides))
        self.assertEqual(told["long"], str(long))
        self.assertEqual(told["tell"], tell(town, sides).replace("\n", ";"))
        self.assertEqual(read_round(town, told["tell"].replace(";", "\n")), sides)
        self.assertRegex(told["parts"], "\\A(0|[1-9][0-9]*)\\Z")
        self.assertEqual(told["parts"] == "0", not sides)
        if told["parts"] == "1":
            self.assertEqual(long, bound(town))
        for row in order:
            if row.startswith("hands"):
                hands = parted(town, sides, int(row[-1]))
                self.assertEqual(told[row], " ".join(
                    str(sum(lengths[side] for side in out + stretch + home)) for out, stretch, home in hands))
        return told

    def answers_as_asked(self, desk, town):
        self.answers_of_one_round(desk, town, OF_A_ROUND)
        self.says(desk, "served", " ".join(served_by_words(town)) or "-")
        self.says(desk, "bound", str(bound(town)))
        for side in sides_of(town):
            told = cut(town, side)
            self.says(desk, "cut " + side, "-" if told is None else told[0] + " " + (" ".join(told[1]) or "-"))


class Rows(Asking):
    def test_each_row(self):
        desk = Desk()
        self.says(desk, SMALL_ROW, "ok")
        for row, answer in (("served", "main> main<"), ("cut main>", "-"), ("cut main<", "-"),
                            ("cut lane>", "out main> main< away>"), ("cut away>", "home away>"), ("bound", "10"),
                            ("round", "main> main<"), ("parts", "1"), ("long", "10"),
                            ("tell", "do main> a b 5;do main< b a 5;all 10"), ("hands 1", "10"),
                            ("shut away", "ok"), ("cut lane>", "out main> main<"), ("served", "main> main<"),
                            ("open away", "ok"), ("cut lane>", "out main> main< away>")):
            self.says(desk, row, answer)

    def test_the_hands(self):
        desk = desk_of(("a", (("o", "a", "a", 3, 1), ("p", "a", "a", 3, 1)), ()))
        self.says(desk, "hands 1", "6")
        self.says(desk, "hands 2", "3 3")
        desk = desk_of(("a", (("s", "a", "b", 5, 2),), ()))
        for many in range(1, 10):
            told = desk.say("hands " + str(many)).split(" ")
            self.assertEqual(len(told), many)
            self.assertEqual(sorted(set(told) - {"0"}), ["10"])

    def test_lists_without_sides(self):
        for town in (EMPTY, ("a", (("s", "a", "b", 1, 1),), ()), ("far", STREETS, ())):
            desk = desk_of(town)
            for row, answer in (("served", "-"), ("bound", "0"), ("round", "-"), ("parts", "0"), ("long", "0"),
                                ("tell", "all 0"), ("hands 1", "0"), ("hands 3", "0 0 0"),
                                ("hands 9", "0 0 0 0 0 0 0 0 0")):
                self.says(desk, row, answer)

    def test_a_cut_without_sides(self):
        desk = desk_of(("far", STREETS, ()))
        for side in sides_of(("far", STREETS, ())):
            self.says(desk, "cut " + side, "out -")
        desk = desk_of(SMALL, ["main"])
        self.says(desk, "cut lane>", "out -")
        self.says(desk, "cut away>", "out -")

    def test_some_towns(self):
        for town in (EMPTY, TOWN, APART, FAR, SMALL, ("a", STREETS, ()), ("far", STREETS, ())):
            self.answers_as_asked(desk_of(town), town)

    def test_many_towns_with_shut_streets(self):
        seen = 0
        for number in range(50):
            for town in (numbered_town(number, most_figures=60), looped_town(number), lane_town(number, 6, 6)):
                names = some_names(town, number)
                left = town_without(town, names)
                seen += 0 < len(served_by_words(left)) < len(served_by_words(town))
                self.answers_as_asked(desk_of(town, names), left)
        self.assertGreater(seen, 30)

    def test_more_parts_than_one(self):
        seen = set()
        for number in range(60):
            town = looped_town(number)
            told = desk_of(town).say("parts")
            self.assertEqual(told, str(len(round_of(town)[1])))
            seen.add(told)
        self.assertLessEqual({"1", "2", "3"}, seen)

    def test_great_towns(self):
        for number in range(2):
            town = great_town(number)
            desk = desk_of(town)
            self.answers_as_asked(desk, town)
            names = [street[0] for street in town[1]][::4]
            for name in names:
                self.says(desk, "shut " + name, "ok")
            self.answers_as_asked(desk, town_without(town, names))

    def test_great_lengths(self):
        desk = desk_of(("a", (("s", "a", "b", GREAT, 2),), ()))
        self.says(desk, "bound", "1" + "9" * 59 + "8")
        self.says(desk, "long", "1" + "9" * 59 + "8")
        self.says(desk, "tell", f"do s> a b {GREAT};do s< b a {GREAT};all 1{'9' * 59}8")

    def test_a_desk_is_its_own(self):
        one = desk_of(SMALL)
        other = Desk()
        self.refuses(other, "served", NoTown)
        other.say("town yard x")
        other.say("town yard a;street main a b 9")
        other.say("shut main")
        self.says(one, "served", "main> main<")
        self.says(one, "long", "10")
        self.says(other, "long", "0")


class NoTexts(Asking):
    def each_desk(self):
        return (Desk(), desk_of(SMALL), desk_of(SMALL, ["main"]), desk_of(EMPTY))

    def test_what_is_no_text(self):
        for desk in self.each_desk():
            for thing in NO_TEXTS + (["served"], ("round",), b"town yard a", ("town", "yard a")):
                self.refuses(desk, thing, NoText)

    def test_what_is_no_row(self):
        for desk in self.each_desk():
            for row in NO_ROWS:
                self.refuses(desk, row, NoText)

    def test_a_word_left_out(self):
        for desk in self.each_desk():
            for row in OF_A_TOWN + (SMALL_ROW,):
                words = row.split(" ")
                for place in range(len(words)):
                    less = " ".join(words[:place] + words[place + 1:])
                    self.refuses(desk, less, NoText)

    def test_one_word_more(self):
        for desk in self.each_desk():
            for row in OF_A_TOWN:
                words = row.split(" ")
                for word in ("main", "main>", "1", "served", "a", "-"):
                    for place in range(1, len(words) + 1):
                        more = " ".join(words[:place] + [word] + words[place:])
                        self.refuses(desk, more, NoText)

    def test_two_blanks_and_blanks_at_an_end(self):
        for desk in self.each_desk():
            for row in OF_A_TOWN + (SMALL_ROW, "town yard a"):
                self.refuses(desk, row + " ", NoText)
                self.refuses(desk, " " + row, NoText)
                for place, sign in enumerate(row):
                    if sign == " ":
                        self.refuses(desk, row[:place] + " " + row[place:], NoText)

    def test_line_feeds_and_other_signs(self):
        for desk in self.each_desk():
            for row in OF_A_TOWN + (SMALL_ROW, "town yard a"):
                for sign in ("\n", "\r", "\t", "\x00", "\u2028"):
                    for place in range(len(row) + 1):
                        self.refuses(desk, row[:place] + sign + row[place:], NoText)
                self.refuses(desk, row + "\nserved", NoText)
                self.refuses(desk, "served\n" + row, NoText)

    def test_line_feeds_in_a_towns_text(self):
        for desk in self.each_desk():
            self.refuses(desk, SMALL_ROW.replace(";", "\n"), NoText)
            self.refuses(desk, SMALL_ROW.replace(";", "\n", 1), NoText)
            self.refuses(desk, "town " + show(SMALL), NoText)

    def test_great_letters(self):
        for desk in self.each_desk():
            for row in OF_A_TOWN + (SMALL_ROW,):
                self.refuses(desk, row.upper(), NoText)
                self.refuses(desk, row.capitalize(), NoText)
            for row in ("shut Main", "open mAin", "cut mainN>", "cut MAIN<"):
                self.refuses(desk, row, NoText)

    def test_how_many_hands(self):
        for desk in self.each_desk():
            for word in ("0", "10", "01", "00", "11", "-1", "1.", "", "a", "1a", "\u0661", "\uff11", "9999", "+1"):
                self.refuses(desk, "hands " + word, NoText)

    def test_towns_texts_that_are_none(self):
        for desk in self.each_desk():
            for text in ("", ";", "yard", "yard a;", ";yard a", "yard a;;street s a b 1", "yard a; street s a b 1",
                         "yard a;street s a b 0", "yard a;street s a b 01", "yard a,street s a b 1", "yard a yard a",
                         "yard A", "street s a b 1", "yard a;ban s> s>;street s a b 1", "town yard a", "yard  a", "yard a ",
                         "yard a;street s a b", "yard a;shut s", "all 0", "yard a;street s a b " + "9" * 61):
                self.refuses(desk, "town " + text, NoText)

    def test_rows_of_ninety_thousand_signs(self):
        for desk in self.each_desk():
            for row in ("a" * 90000, " " * 90000, "served " * 12000, "town " + ";" * 89000, "hands " + "1" * 89000,
                        "town yard a" + ";yard a" * 12000, "cut " + "a" * 89000 + ">", "shut " + "a" * 89000):
                self.refuses(desk, row, NoText)


class NoTowns(Asking):
    def test_rows_that_need_a_town(self):
        desk = Desk()
        for row in OF_A_TOWN + ("shut x", "open x", "cut x>", "cut x<", "hands 5"):
            self.refuses(desk, row, NoTown)
        self.says(desk, SMALL_ROW, "ok")
        for row in OF_A_TOWN:
            self.assertIs(desk.say(row).__class__, str)

    def test_behind_a_town_that_was_refused(self):
        for text, refusal in (("yard", NoText), ("yard a;street s a b 1;street s a b 1", Unfit)):
            desk = Desk()
            self.refuses(desk, "town " + text, refusal)
            for row in OF_A_TOWN:
                self.refuses(desk, row, NoTown)

    def test_no_row_first(self):
        for row in NO_ROWS:
            self.refuses(Desk(), row, NoText)

    def test_each_other_sign_at_each_place(self):
        desk = Desk()
        seen = {NoText: 0, NoTown: 0}
        for row in OF_A_TOWN:
            for place in range(len(row) + 1):
                for code in range(128):
                    for rest in (row[place:], row[place + 1:]):
                        changed = row[:place] + chr(code) + rest
                        refusal = NoTown if FORM.fullmatch(changed) else NoText
                        seen[refusal] += 1
                        self.refuses(desk, changed, refusal)
        self.assertGreater(min(seen.values()), 500)

    def test_parts_of_rows(self):
        desk = Desk()
        for row in OF_A_TOWN:
            for first in range(len(row) + 1):
                for last in range(first, len(row) + 1):
                    for part in (row[first:last], row[:first] + row[last:]):
                        self.refuses(desk, part, NoTown if FORM.fullmatch(part) else NoText)


class Shutting(Asking):
    def test_strangers(self):
        for names in ((), ("main",), ("main", "lane", "away")):
            desk = desk_of(SMALL, names)
            for name in ("x", "other", "mai", "mainn", "a", "b", "yard", "street", "shut"):
                self.refuses(desk, "shut " + name, Unknown)
                self.refuses(desk, "open " + name, Unknown)
        for row in ("shut main", "open main"):
            self.refuses(desk_of(EMPTY), row, Unknown)

    def test_what_is_so_already_stays_so(self):
        desk = desk_of(SMALL)
        whole = all_answers(desk, SMALL)
        self.says(desk, "open main", "ok")
        self.assertEqual(all_answers(desk, SMALL), whole)
        self.says(desk, "shut main", "ok")
        shut = all_answers(desk, SMALL)
        self.assertNotEqual(shut, whole)
        for often in range(3):
            self.says(desk, "shut main", "ok")
            self.assertEqual(all_answers(desk, SMALL), shut)
        self.says(desk, "open main", "ok")
        self.assertEqual(all_answers(desk, SMALL), whole)
        self.says(desk, "open main", "ok")
        self.assertEqual(all_answers(desk, SMALL), whole)

    def test_cuts(self):
        desk = desk_of(SMALL)
        self.says(desk, "cut main>", "-")
        for side in ("lane<", "away<", "x>", "x<", "a>", "mai>"):
            self.refuses(desk, "cut " + side, Unknown)
        self.says(desk, "shut away", "ok")
        self.refuses(desk, "cut away>", Unknown)
        self.says(desk, "cut main>", "-")
        self.says(desk, "open away", "ok")
        self.says(desk, "cut away>", "home away>")
        self.says(desk, "shut main", "ok")
        for side in ("main>", "main<"):
            self.refuses(desk, "cut " + side, Unknown)

    def test_a_shut_street_takes_its_bans_with_it(self):
        streets = (("main", "a", "b", 5, 2), ("o", "b", "b", 1, 1), ("p", "b", "b", 2, 1))
        town = ("a", streets, (("main>", "p>"), ("o>", "o>")))
        desk = desk_of(town)
        for names in itertools.permutations(["main", "o", "p"]):
            for many in range(4):
                desk = desk_of(town, names[:many])
                self.answers_as_asked(desk, town_without(town, names[:many]))
                for name in names[:many]:
                    self.says(desk, "open " + name, "ok")
                self.answers_as_asked(desk, town)

    def test_in_any_order(self):
        for number in range(30):
            town = numbered_town(number)
            names = some_names(town, number)
            told = [all_answers(desk_of(town, order), town) for order in itertools.permutations(names)]
            for answers in told[1:]:
                self.assertEqual(answers, told[0])

    def test_shut_and_opened_again_and_again(self):
        desk = desk_of(TOWN)
        shut = []
        for number in range(60):
            name = STREETS[number * 7 % 5][0]
            if name in shut and number % 3:
                shut.remove(name)
                self.says(desk, "open " + name, "ok")
            else:
                shut = shut + [name] if name not in shut else shut
                self.says(desk, "shut " + name, "ok")
            self.answers_as_asked(desk, town_without(TOWN, shut))

    def test_a_town_told_anew_opens_all(self):
        desk = desk_of(SMALL, ["main", "away"])
        self.says(desk, "served", "-")
        self.says(desk, SMALL_ROW, "ok")
        self.answers_as_asked(desk, SMALL)
        self.says(desk, "shut main", "ok")
        self.says(desk, row_of(FAR), "ok")
        self.answers_as_asked(desk, FAR)
        self.says(desk, row_of(EMPTY), "ok")
        self.answers_as_asked(desk, EMPTY)
        self.refuses(desk, "shut main", Unknown)
        self.says(desk, row_of(TOWN), "ok")
        self.answers_as_asked(desk, TOWN)


class Refusing(Asking):
    def test_what_is_refused_changes_nothing(self):
        refused = (("town yard", NoText), ("town yard x;street s x y 1;", NoText), ("town", NoText), (None, NoText),
                   ("town yard x;street s x y 1\n", NoText), ("town yard x;street s x y 1;lane s x y 2", Unfit),
                   ("town yard x;street s x y 1;ban s< s>", Unfit), ("town yard a;ban main> main<", Unfit),
                   ("shut x", Unknown), ("open x", Unknown), ("cut x>", Unknown), ("shut main ", NoText),
                   ("open main\n", NoText), ("hands 0", NoText), ("shut main>", NoText), ("cut main", NoText))
        for names in ((), ("away",), ("main",), ("main", "lane")):
            for asked_before in (True, False):
                for row, refusal in refused:
                    desk = desk_of(TOWN if "away" not in names else SMALL, names)
                    town = town_without(TOWN if "away" not in names else SMALL, names)
                    before = all_answers(desk, town) if asked_before else None
                    self.refuses(desk, row, refusal)
                    if asked_before:
                        self.assertEqual(all_answers(desk, town), before)
                    self.answers_as_asked(desk, town)

    def test_an_unfit_town(self):
        desk = desk_of(SMALL, ["away"])
        for text in ("yard a;street s a b 1;street s a b 1", "yard a;street s a b 1;ban s> t>",
                     "yard a;street s a b 1;ban s< s>", "yard a;street s a b 1;ban s> s<;ban s> s<",
                     "yard a;lane s a b 1;ban s> s<", "yard a;street s a b 1;ban s> s>"):
            self.refuses(desk, "town " + text, Unfit)
            self.says(desk, "cut lane>", "out main> main<")
            self.refuses(desk, "cut away>", Unknown)


class OneRound(Asking):
    def test_whichever_is_asked_first(self):
        for town in (TOWN, FAR, EMPTY, SMALL, looped_town(7), looped_town(20)):
            told = []
            for order in itertools.permutations(("round", "parts", "long", "tell", "hands 3")):
                told.append(self.answers_of_one_round(desk_of(town), town, order))
            for answers in told[1:]:
                self.assertEqual(answers, told[0])

    # Each time another round of the town is found: what is answered may not be of two of them.
    def test_one_round_until_something_changes(self):
        town = ("a", (("s", "a", "a", 1, 1), ("t", "a", "a", 2, 1), ("u", "a", "a", 4, 1)), ())

        def finder(number):
            many = [0]

            def find(left):
                many[0] += 1
                sides = served(left) * (many[0] + number)
                return sides, [sides]
            return find

        for number, order in enumerate(itertools.permutations(("round", "parts", "long", "tell", "hands 3"))):
            with mock.patch("kerb.desk.round_of", finder(number)):
                desk = desk_of(town)
                seen = [self.told_of_one(desk, town, order)]
                for row, left in (("shut s", town_without(town, ["s"])), ("shut u", town_without(town, ["s", "u"])),
                                  ("open s", town_without(town, ["u"])), ("open u", town), (row_of(town), town)):
                    self.says(desk, row, "ok")
                    seen.append(self.told_of_one(desk, left, order))
                self.assertEqual(len(set(seen)), len(seen))

    def told_of_one(self, desk, town, order):
        told = [desk.say(row) for row in order]
        desk.say("served")
        desk.say("bound")
        for row in ("shut x", "town yard", "cut", "hands 10", "town yard a;ban s> s>"):
            with self.assertRaises(KerbError):
                desk.say(row)
        self.assertEqual([desk.say(row) for row in reversed(order)], told[::-1])
        answers = dict(zip(order, told))
        sides = answers["round"].split(" ")
        self.assertEqual(read_round(town, answers["tell"].replace(";", "\n")), sides)
        self.assertEqual(answers["long"], str(sum(lengths_of(town)[side] for side in sides)))
        self.assertEqual(sum(int(word) for word in answers["hands 3"].split(" ")), int(answers["long"]))
        return answers["long"] + " " + answers["round"]


if __name__ == "__main__":
    unittest.main()
