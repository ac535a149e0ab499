"""Rounds told as texts and read again: point [25], and the interface's part kerb/tellings.py."""

import copy
import itertools
import re
import unittest

from kerb.errors import NoRound, NoText
from kerb.rounds import round_of
from kerb.tellings import read_round, tell
from tests.samples import (APART, BANS, EMPTY, FAR, NO_SIDES, NO_TEXTS, STREETS, corners_of, great_town,
                           is_round_by_words, lane_town, lengths_of, looped_town, numbered_town, wandering_round)

TOWN = ("a", STREETS, ())
BANNED = ("a", STREETS, BANS)
GREAT = 10 ** 60 - 1

ROUND = ["main>", "lane>", "ring<", "back>", "spin>", "back<", "ring<", "back>", "main<"]
TEXT = """do main> a b 5
do lane> b c 7
do ring< c c 3
do back> c b 2
do spin> b b 4
do back< b c 2
by ring< c c 3
by back> c b 2
do main< b a 5
all 33"""

ROW = re.compile("(do|by) ([a-z]{1,8}[<>]) ([a-z]{1,8}) ([a-z]{1,8}) ([1-9][0-9]*)")


# What a text is to be answered with, each word of each row looked at by itself.
def asked_for(town, text):
    rows = text.split("\n")
    found = [ROW.fullmatch(row) for row in rows[:-1]]
    if None in found or not re.fullmatch("all (0|[1-9][0-9]*)", rows[-1]):
        return NoText
    sides = [row[2] for row in found]
    if not is_round_by_words(town, sides):
        return NoText
    lengths = lengths_of(town)
    for place, row in enumerate(found):
        word = "by" if row[2] in sides[:place] else "do"
        if (row[1], row[3], row[4], int(row[5])) != (word, *corners_of(town)[row[2]], lengths[row[2]]):
            return NoText
    return sides if int(rows[-1][4:]) == sum(lengths[side] for side in sides) else NoText


class Tellings(unittest.TestCase):
    def tells(self, town, sides, text):
        told = tell(town, list(sides))
        self.assertIs(told.__class__, str)
        self.assertEqual(told, text)
        self.reads(town, text, sides)

    def reads(self, town, text, sides):
        told = read_round(town, text)
        self.assertIs(told.__class__, list)
        self.assertEqual(told, sides)

    def refuses(self, town, text):
        with self.assertRaises(NoText, msg=repr(text)[:200]) as caught:
            read_round(town, text)
        self.assertIs(caught.exception.__class__, NoText)

    def refuses_rows(self, *rows):
        self.refuses(TOWN, "\n".join(rows))

    def answers(self, town, text):
        told = asked_for(town, text)
        if told is NoText:
            self.refuses(town, text)
        else:
            self.reads(town, text, told)


class Telling(Tellings):
    def test_a_round(self):
        self.tells(TOWN, ROUND, TEXT)

    def test_the_round_without_sides(self):
        for town in (TOWN, BANNED, EMPTY, APART, FAR):
            self.tells(town, [], "all 0")

    def test_the_first_time_and_behind_it(self):
        self.tells(TOWN, ["main>", "main<"], "do main> a b 5\ndo main< b a 5\nall 10")
        self.tells(TOWN, ["main>", "main<"] * 2,
                   "do main> a b 5\ndo main< b a 5\nby main> a b 5\nby main< b a 5\nall 20")
        self.tells(TOWN, ["main>", "spin>", "spin>", "spin>", "main<"],
                   "do main> a b 5\ndo spin> b b 4\nby spin> b b 4\nby spin> b b 4\ndo main< b a 5\nall 22")

    def test_a_street_back_is_another_side(self):
        self.tells(TOWN, ["main>", "back<", "ring>", "ring<", "ring>", "back>", "main<"],
                   "do main> a b 5\ndo back< b c 2\ndo ring> c c 3\ndo ring< c c 3\nby ring> c c 3\ndo back> c b 2\n"
                   "do main< b a 5\nall 23")

    def test_the_corners_of_both_sides(self):
        town = ("x", (("s", "x", "y", 1, 2), ("t", "x", "y", 2, 2)), ())
        self.tells(town, ["s>", "t<", "t>", "s<"], "do s> x y 1\ndo t< y x 2\ndo t> x y 2\ndo s< y x 1\nall 6")
        turned = ("y", town[1], ())
        self.tells(turned, ["t<", "s>", "s<", "t>"], "do t< y x 2\ndo s> x y 1\ndo s< y x 1\ndo t> x y 2\nall 6")

    def test_a_total_of_more_than_sixty_figures(self):
        town = ("a", (("s", "a", "b", GREAT, 2),), ())
        figures = "9" * 60
        self.tells(town, ["s>", "s<"], f"do s> a b {figures}\ndo s< b a {figures}\nall 1{'9' * 59}8")
        self.tells(town, ["s>", "s<"] * 50, "\n".join(
            [f"do s> a b {figures}", f"do s< b a {figures}"] + [f"by s> a b {figures}", f"by s< b a {figures}"] * 49
            + [f"all 99{'9' * 58}00"]))

    def test_a_length_of_more_than_sixty_figures(self):
        town = ("a", (("o", "a", "a", 10 ** 70, 1),), ())
        self.tells(town, ["o>"], f"do o> a a 1{'0' * 70}\nall 1{'0' * 70}")

    def test_a_walk_of_nine_hundred_sides(self):
        rows = ["do main> a b 5", "do main< b a 5"] + ["by main> a b 5", "by main< b a 5"] * 449 + ["all 4500"]
        self.tells(TOWN, ["main>", "main<"] * 450, "\n".join(rows))

    def test_read_again_to_the_same_round(self):
        seen = 0
        for number in range(100):
            for town in (numbered_town(number, most_figures=60), looped_town(number), lane_town(number, 6, 6)):
                for sides in (round_of(town)[0], wandering_round(town, number, number)):
                    seen += len(sides) > 2
                    text = tell(town, sides)
                    self.assertEqual(asked_for(town, text), sides)
                    self.assertEqual(read_round(town, text), sides)
        self.assertGreater(seen, 200)

    def test_texts_of_ninety_thousand_signs(self):
        for number in range(3):
            town = great_town(number)
            sides = wandering_round(town, number, 1150)
            text = tell(town, sides)
            self.assertGreater(len(text), 85000)
            self.assertEqual(asked_for(town, text), sides)
            self.assertEqual(read_round(town, text), sides)


class NoRounds(unittest.TestCase):
    def refuses(self, town, sides):
        with self.assertRaises(NoRound, msg=sides) as caught:
            tell(town, sides)
        self.assertIs(caught.exception.__class__, NoRound)

    def test_what_is_no_round_is_not_told(self):
        for sides in (["main>"], ["main<"], ["main>", "main>"], ["main>", "ring>", "main<"], ["spin>", "main<"],
                      ["main>", "main<", "main>"], ["main>", "main<", "main<"]):
            self.refuses(TOWN, sides)

    def test_strangers(self):
        for text in NO_SIDES:
            self.refuses(TOWN, [text])
            self.refuses(TOWN, ["main>", "main<", text])
            self.refuses(TOWN, ["main>", text, "main<"])
            self.refuses(EMPTY, [text])

    def test_a_banned_turn(self):
        self.assertEqual(tell(TOWN, ["main>", "lane>", "back>", "main<"])[-6:], "all 19")
        self.refuses(BANNED, ["main>", "lane>", "back>", "main<"])


class NoTellings(Tellings):
    def test_what_is_no_text(self):
        for thing in NO_TEXTS + (ROUND, [TEXT], TEXT.split("\n"), TEXT.encode(), (TEXT,), {TEXT: 1}):
            for town in (TOWN, EMPTY):
                self.refuses(town, thing)

    def test_the_text_without_signs(self):
        for town in (TOWN, EMPTY, APART):
            self.refuses(town, "")

    def test_blanks_and_line_feeds_alone(self):
        for text in (" ", "\n", "  ", "\n\n", " \n ", "\t"):
            self.refuses(TOWN, text)

    def test_rows_left_out(self):
        rows = TEXT.split("\n")
        for place in range(len(rows)):
            self.refuses_rows(*rows[:place], *rows[place + 1:])
        for one, other in itertools.combinations(range(len(rows) + 1), 2):
            if (one, other) != (0, len(rows)):
                self.refuses_rows(*rows[one:other])

    def test_rows_doubled(self):
        rows = TEXT.split("\n")
        for place in range(len(rows)):
            self.refuses_rows(*rows[:place + 1], *rows[place:])
        self.refuses(TOWN, TEXT + "\n" + TEXT)
        self.refuses(TOWN, "all 0\nall 0")
        self.refuses(TOWN, "all 0\n" + TEXT)
        self.refuses(TOWN, TEXT + "\nall 0")

    def test_rows_turned_about(self):
        rows = TEXT.split("\n")
        for one, other in itertools.combinations(range(len(rows)), 2):
            changed = list(rows)
            changed[one], changed[other] = rows[other], rows[one]
            # lane> and back< lead from b to c: in each other's place they make another round.
            if {rows[one][:8], rows[other][:8]} == {"do lane>", "do back<"}:
                self.reads(TOWN, "\n".join(changed), [row.split(" ")[1] for row in changed[:-1]])
            else:
                self.refuses_rows(*changed)
        self.refuses_rows(*reversed(rows))

    def test_a_loop_left_out_or_doubled_with_another_total_is_another_round(self):
        text = "do main> a b 5\ndo spin> b b 4\ndo main< b a 5\nall 14"
        self.reads(TOWN, text, ["main>", "spin>", "main<"])
        self.refuses(TOWN, text.replace("do spin> b b 4\n", ""))
        self.reads(TOWN, text.replace("do spin> b b 4\n", "").replace("14", "10"), ["main>", "main<"])
        self.refuses(TOWN, text.replace("do spin> b b 4\n", "do spin> b b 4\ndo spin> b b 4\n").replace("14", "18"))
        self.reads(TOWN, text.replace("do spin> b b 4\n", "do spin> b b 4\nby spin> b b 4\n").replace("14", "18"),
                   ["main>", "spin>", "spin>", "main<"])

    def test_another_word(self):
        rows = TEXT.split("\n")
        for place, row in enumerate(rows):
            for number, word in enumerate(row.split(" ")):
                for other in ("do", "by", "all", "main>", "main<", "ring>", "other>", "a", "b", "c", "x", "5", "2", "33",
                              "0", "", "-", "yard", "Do", word.upper(), word + " " + word, "0" + word, word + "0"):
                    words = row.split(" ")
                    words[number] = other
                    if other != word and words != row.split(" "):
                        self.refuses_rows(*rows[:place], " ".join(words), *rows[place + 1:])

    def test_do_in_the_place_of_by_and_the_other_way(self):
        rows = TEXT.split("\n")
        for place, row in enumerate(rows[:-1]):
            other = "by" if row[:2] == "do" else "do"
            self.refuses_rows(*rows[:place], other + row[2:], *rows[place + 1:])
        self.refuses(TOWN, TEXT.replace("do", "by"))
        self.refuses(TOWN, TEXT.replace("by", "do"))

    def test_noughts_ahead_of_a_number(self):
        rows = TEXT.split("\n")
        for place, row in enumerate(rows):
            for noughts in ("0", "00", "+", "-", "+0"):
                changed = row.rpartition(" ")[0] + " " + noughts + row.rpartition(" ")[2]
                self.refuses_rows(*rows[:place], changed, *rows[place + 1:])
        self.refuses(TOWN, "all 00")
        self.refuses(TOWN, "all -0")
        self.refuses(TOWN, "all +0")

    def test_another_total(self):
        for total in list(range(33)) + list(range(34, 80)) + [330, 3, "33.0", "3_3", "\u0663\u0663", "", "x", "33 ", "5"]:
            self.refuses(TOWN, TEXT[:-2] + str(total))
        for total in (1, 5, 10, -1, "", "o", "00", "none"):
            self.refuses(TOWN, f"all {total}")
        self.refuses(TOWN, "all")

    def test_another_length(self):
        self.refuses(TOWN, TEXT.replace("lane> b c 7", "lane> b c 8"))
        self.refuses(TOWN, TEXT.replace("lane> b c 7", "lane> b c 8").replace("all 33", "all 34"))

    def test_another_corner(self):
        for corner in "bcdxy":
            self.refuses(TOWN, TEXT.replace("do main> a b", f"do main> {corner} b"))
        self.refuses(TOWN, TEXT.replace("do main> a b", "do main> b a"))
        self.refuses(TOWN, TEXT.replace("do main< b a", "do main< a b"))

    def test_two_blanks(self):
        for place, sign in enumerate(TEXT):
            if sign == " ":
                self.refuses(TOWN, TEXT[:place] + " " + TEXT[place:])

    def test_a_blank_or_a_line_feed_at_an_end(self):
        for text, town in ((TEXT, TOWN), ("all 0", TOWN), ("all 0", EMPTY)):
            for sign in (" ", "\n", "\r", "\t", ";", "\r\n", "\x00"):
                self.refuses(town, text + sign)
                self.refuses(town, sign + text)
        rows = TEXT.split("\n")
        for place, row in enumerate(rows):
            self.refuses_rows(*rows[:place], row + " ", *rows[place + 1:])
            self.refuses_rows(*rows[:place], " " + row, *rows[place + 1:])

    def test_other_signs_in_a_line_feeds_place(self):
        for other in (" ", ";", "\r", "\r\n", "\n\n", "\x0b", "\x0c", "\x1c", "\u0085", "\u2028", ""):
            self.refuses(TOWN, TEXT.replace("\n", other))
            self.refuses(TOWN, TEXT.replace("\n", other, 1))

    def test_a_telling_of_what_is_no_round(self):
        self.refuses_rows("do main> a b 5", "all 5")
        self.refuses_rows("do main< b a 5", "all 5")
        self.refuses_rows("do spin> b b 4", "do main< b a 5", "all 9")
        self.refuses_rows("do main> a b 5", "do ring> c c 3", "do main< b a 5", "all 13")
        self.refuses_rows("do main> a b 5", "by main> a b 5", "do main< b a 5", "all 15")
        self.refuses_rows("do other> a a 5", "all 5")
        self.refuses_rows("do lane< c b 7", "all 7")

    def test_a_banned_turn(self):
        text = "do main> a b 5\ndo lane> b c 7\ndo back> c b 2\ndo main< b a 5\nall 19"
        self.reads(TOWN, text, ["main>", "lane>", "back>", "main<"])
        self.refuses(BANNED, text)

    def test_a_telling_of_another_towns_round(self):
        self.refuses(FAR, TEXT)
        self.refuses(EMPTY, TEXT)
        self.refuses(("b", STREETS, ()), TEXT)
        self.refuses(("a", STREETS[:-1] + (("spin", "b", "b", 5, 1),), ()), TEXT)
        self.refuses(("a", STREETS[:-1] + (("spun", "b", "b", 4, 1),), ()), TEXT)

    def test_each_other_sign_at_each_place(self):
        town = ("a", (("s", "a", "b", 12, 2), ("t", "a", "b", 12, 2)), ())
        text = "do s> a b 12\ndo t< b a 12\nby s> a b 12\ndo s< b a 12\nall 48"
        self.assertEqual(asked_for(town, text), ["s>", "t<", "s>", "s<"])
        for place in range(len(text) + 1):
            for code in range(128):
                for changed in (text[:place] + chr(code) + text[place:], text[:place] + chr(code) + text[place + 1:]):
                    self.answers(town, changed)

    def test_another_side_with_the_same_corners_and_length_is_another_round(self):
        town = ("a", (("s", "a", "b", 12, 2), ("t", "a", "b", 12, 2)), ())
        self.reads(town, "do s> a b 12\ndo t< b a 12\nall 24", ["s>", "t<"])
        self.reads(town, "do s> a b 12\ndo s< b a 12\nall 24", ["s>", "s<"])

    def test_parts_of_tellings(self):
        for place in range(len(TEXT)):
            for text in (TEXT[:place], TEXT[place + 1:], TEXT[:place] + TEXT[place + 1:]):
                self.refuses(TOWN, text)

    def test_texts_of_ninety_thousand_signs(self):
        for text in ("a" * 90000, " " * 90000, "\n" * 90000, "do main> a b 5\n" * 6000, "all 0\n" * 15000,
                     "all " + "9" * 90000, "all " + "0" * 90000, "do main> a b " + "5" * 89000 + "\nall 5"):
            self.refuses(TOWN, text)


class Keeping(unittest.TestCase):
    def test_what_is_handed_in_stays(self):
        sides = list(ROUND)
        town = copy.deepcopy(TOWN)
        tell(town, sides)
        read_round(town, TEXT)
        self.assertEqual((town, sides), (TOWN, ROUND))
        for thing in ([], ["all 0"], {"all": 0}):
            kept = copy.deepcopy(thing)
            with self.assertRaises(NoText):
                read_round(town, thing)
            self.assertEqual(thing, kept)

    def test_a_read_round_is_the_askers_own(self):
        for text in (TEXT, "all 0"):
            told = read_round(TOWN, text)
            kept = list(told)
            told.append("changed")
            self.assertEqual(read_round(TOWN, text), kept)

    def test_a_list_changed_later_changes_nothing(self):
        sides = list(ROUND)
        self.assertEqual(tell(TOWN, sides), TEXT)
        sides.clear()
        self.assertEqual(tell(TOWN, sides), "all 0")
        self.assertEqual(tell(TOWN, list(ROUND)), TEXT)


if __name__ == "__main__":
    unittest.main()
