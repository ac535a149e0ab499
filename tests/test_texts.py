"""Texts of towns: point [9], and the interface's part kerb/reader.py, kerb/writer.py."""

import copy
import re
import unittest

from kerb.errors import NoText, Unfit
from kerb.reader import read
from kerb.towns import fits
from kerb.writer import show
from tests.samples import STREETS, numbered_town

TEXT = """yard a
street main a b 5
lane lane b c 7
street back c b 2
street ring c c 3
lane spin b b 4
ban main> lane>
ban ring> ring<
ban spin> spin>"""
TOWN = ("a", STREETS, (("main>", "lane>"), ("ring>", "ring<"), ("spin>", "spin>")))
LONG = "9" * 60

PAIRS = (
    (TEXT, TOWN),
    ("yard a", ("a", (), ())),
    ("yard abcdefgh", ("abcdefgh", (), ())),
    ("yard a\nstreet s a b 1", ("a", (("s", "a", "b", 1, 2),), ())),
    ("yard a\nlane s a b 1", ("a", (("s", "a", "b", 1, 1),), ())),
    ("yard a\nstreet s a a 1", ("a", (("s", "a", "a", 1, 2),), ())),
    ("yard a\nlane s a a 1", ("a", (("s", "a", "a", 1, 1),), ())),
    ("yard a\nlane s a b 1\nstreet t b a 2\nlane u b a 3",
     ("a", (("s", "a", "b", 1, 1), ("t", "b", "a", 2, 2), ("u", "b", "a", 3, 1)), ())),
    ("yard far\nstreet s a b 10\nban s> s<\nban s< s>", ("far", (("s", "a", "b", 10, 2),), (("s>", "s<"), ("s<", "s>")))),
    ("yard a\nstreet s a b " + LONG + "\nlane t b a 1" + "0" * 59,
     ("a", (("s", "a", "b", 10 ** 60 - 1, 2), ("t", "b", "a", 10 ** 59, 1)), ())),
    ("yard yard\nstreet street lane ban 12\nlane lane yard street 7\nlane ban ban lane 1\nban street> ban>",
     ("yard", (("street", "lane", "ban", 12, 2), ("lane", "yard", "street", 7, 1), ("ban", "ban", "lane", 1, 1)),
      (("street>", "ban>"),))),
)

# What a text may not have where a name, a number or a side is to stand.
NO_NAMES = ("abcdefghi", "A", "Main", "a1", "1", "a_b", "a-b", "a>", "a<", ">", "\t", "a\t", "a\r", "a;", "a\x00",
            "a\u00e4", "\u00e4", "\u0430", "a" * 90000)
NO_NUMBERS = ("0", "00", "01", "007", "-1", "-0", "+1", "1_0", "1.0", "1e3", "0x1", "a", "one", "1a", "1\t", "1\r",
              "9" * 61, "1" + "0" * 60, "0" + "9" * 59, "0" * 60, "\u0661", "\u00b2", "1" * 5000)
NO_SIDES = ("s", ">", "<", "s>>", "s=", ">s", "s><", "S>", "abcdefghi>", "1>", "s>\t", "s\t>", "s>\r", "s>;", "s>,")

NO_TEXTS = (0, 1, 7, -1, None, True, False, 1.5, [], ["yard a"], ["yard", "a"], (), ("yard a",), ("a", (), ()), TOWN, {},
            {"yard": "a"}, {"yard a"}, b"yard a", b"", object(), read, str, ValueError)

NAME = "[a-z]{1,8}"
FORM = re.compile(f"yard {NAME}(\n(street|lane) {NAME} {NAME} {NAME} [1-9][0-9]{{0,59}})*(\nban {NAME}[<>] {NAME}[<>])*")


# What a text is to be answered with, by its form as a whole and not row by row.
def asked_for(text):
    if not FORM.fullmatch(text):
        return NoText
    rows = [row.split(" ") for row in text.split("\n")]
    streets = tuple((row[1], row[2], row[3], int(row[4]), 2 if row[0] == "street" else 1)
                    for row in rows if row[0] in ("street", "lane"))
    town = (rows[0][1], streets, tuple((row[1], row[2]) for row in rows if row[0] == "ban"))
    return town if fits(town) else Unfit


class Asking(unittest.TestCase):
    def refuses(self, text, refusal=NoText):
        with self.assertRaises(refusal, msg=repr(text)[:200]) as caught:
            read(text)
        self.assertIs(caught.exception.__class__, refusal)

    def refuses_rows(self, *rows):
        self.refuses("\n".join(rows))


class Reading(Asking):
    def test_towns_are_read(self):
        for text, town in PAIRS:
            self.assertEqual(read(text), town, text)
            self.assertIs(fits(town), True)

    def test_a_read_town_is_of_the_form_of_a_town(self):
        town = read(TEXT)
        self.assertIs(town.__class__, tuple)
        self.assertEqual(len(town), 3)
        self.assertIs(town[0].__class__, str)
        for part in town[1:]:
            self.assertIs(part.__class__, tuple)
        for street in town[1]:
            self.assertEqual([value.__class__ for value in street], [str, str, str, int, int])
            self.assertIs(street.__class__, tuple)
        for ban in town[2]:
            self.assertEqual([value.__class__ for value in ban], [str, str])
            self.assertIs(ban.__class__, tuple)
        self.assertEqual(read("yard a")[1:], ((), ()))

    def test_a_town_of_thirty_streets_and_twenty_bans(self):
        names = [chr(ord("a") + k // 6) + "bcdefg" + chr(ord("a") + k % 6) for k in range(30)]
        rows = ["yard abcdefgh"] + [f"street {name} corner corner {LONG}" for name in names]
        rows = rows + [f"ban {names[k]}> {names[k + 1]}<" for k in range(20)]
        town = ("abcdefgh", tuple((name, "corner", "corner", 10 ** 60 - 1, 2) for name in names),
                tuple((names[k] + ">", names[k + 1] + "<") for k in range(20)))
        self.assertEqual(read("\n".join(rows)), town)
        self.assertEqual(show(town), "\n".join(rows))


class NoTowns(Asking):
    def test_what_is_no_text(self):
        for thing in NO_TEXTS:
            self.refuses(thing)

    def test_the_text_without_signs(self):
        self.refuses("")

    def test_blanks_and_line_feeds_alone(self):
        for text in (" ", "\n", "\t", "\n\n", " \n "):
            self.refuses(text)

    def test_no_yards_row(self):
        self.refuses_rows("street s a b 1")
        self.refuses_rows("street s a b 1", "ban s> s<")
        self.refuses_rows("lane s a b 1", "street t a b 1")
        self.refuses_rows("ban s> s<")

    def test_two_yards_rows(self):
        self.refuses_rows("yard a", "yard a")
        self.refuses_rows("yard a", "yard b")
        self.refuses_rows("yard a", "yard a", "street s a b 1")
        self.refuses_rows("yard a", "street s a b 1", "yard a")
        self.refuses_rows("yard a", "street s a b 1", "yard a", "street t a b 1")
        self.refuses_rows("yard a", "street s a b 1", "ban s> s<", "yard a")

    def test_a_yards_row_behind_a_street_or_a_ban(self):
        self.refuses_rows("street s a b 1", "yard a")
        self.refuses_rows("lane s a b 1", "yard a", "street t a b 1")
        self.refuses_rows("street s a b 1", "ban s> s<", "yard a")
        self.refuses_rows("ban s> s<", "yard a", "street s a b 1")

    def test_a_street_behind_a_ban(self):
        self.refuses_rows("yard a", "ban s> s<", "street s a b 1")
        self.refuses_rows("yard a", "street s a b 1", "ban s> s<", "street t a b 1")
        self.refuses_rows("yard a", "street s a b 1", "ban s> s<", "lane t a b 1")
        self.refuses_rows("yard a", "street s a b 1", "ban s> s<", "lane t a b 1", "ban s< s>")

    def test_a_word_more(self):
        self.refuses_rows("yard a a")
        for word in ("street", "lane"):
            self.refuses_rows("yard a", word + " s a b 1 1")
            self.refuses_rows("yard a", word + " s a b b 1")
            self.refuses_rows("yard a", word + " s a b 1 2", "street t a b 1")
        self.refuses_rows("yard a", "street s a b 1", "ban s> s< s>")
        self.refuses_rows("yard a", "street s a b 1", "ban s> s< a")

    def test_a_word_less(self):
        self.refuses_rows("yard")
        self.refuses_rows("a")
        for word in ("street", "lane"):
            for row in (word, word + " s", word + " s a", word + " s a b", word + " s a 1", "s a b 1"):
                self.refuses_rows("yard a", row)
        self.refuses_rows("yard a", "street s a b 1", "ban")
        self.refuses_rows("yard a", "street s a b 1", "ban s>")
        self.refuses_rows("yard a", "street s a b 1", "s> s<")

    def test_words_in_another_order(self):
        self.refuses_rows("a yard")
        self.refuses_rows("yard a", "street 1 s a b")
        self.refuses_rows("yard a", "street s a 1 b")
        self.refuses_rows("yard a", "s street a b 1")
        self.refuses_rows("yard a", "street s a b 1", "s> ban s<")

    def test_two_blanks_side_by_side(self):
        for place, sign in enumerate(TEXT):
            if sign == " ":
                self.refuses(TEXT[:place] + " " + TEXT[place:])

    def test_a_blank_at_an_end(self):
        rows = TEXT.split("\n")
        for place, row in enumerate(rows):
            self.refuses_rows(*rows[:place], " " + row, *rows[place + 1:])
            self.refuses_rows(*rows[:place], row + " ", *rows[place + 1:])

    def test_a_tab_in_a_blanks_place(self):
        for place, sign in enumerate(TEXT):
            if sign == " ":
                for other in ("\t", "\n", "\r", "\x0b", "\x0c", "\x1c", "\u00a0", "_", ""):
                    self.refuses(TEXT[:place] + other + TEXT[place + 1:])

    def test_line_feeds_at_an_end(self):
        for text, town in PAIRS:
            self.refuses(text + "\n")
            self.refuses("\n" + text)
            self.refuses(text + "\r\n")

    def test_two_line_feeds_side_by_side(self):
        for place, sign in enumerate(TEXT):
            if sign == "\n":
                self.refuses(TEXT[:place] + "\n" + TEXT[place:])

    def test_other_signs_in_a_line_feeds_place(self):
        for place, sign in enumerate(TEXT):
            if sign == "\n":
                for other in (" ", ";", "\r", "\r\n", "\n\r", "\x0b", "\x0c", "\x1c", "\u0085", "\u2028", ""):
                    self.refuses(TEXT[:place] + other + TEXT[place + 1:])

    def test_names(self):
        for name in NO_NAMES:
            self.refuses_rows("yard " + name)
            for word in ("street", "lane"):
                self.refuses_rows("yard a", f"{word} {name} a b 1")
                self.refuses_rows("yard a", f"{word} s {name} b 1")
                self.refuses_rows("yard a", f"{word} s a {name} 1")
            self.refuses_rows("yard a", "street s a b 1", f"ban {name}> s<")
            self.refuses_rows("yard a", "street s a b 1", f"ban s> {name}<")

    def test_numbers(self):
        for number in NO_NUMBERS:
            self.refuses_rows("yard a", f"street s a b {number}")
            self.refuses_rows("yard a", f"lane s a b {number}")
            self.refuses_rows("yard a", f"lane s a b {number}", "street t a b 1")

    def test_sides(self):
        for side in NO_SIDES:
            self.refuses_rows("yard a", "street s a b 1", f"ban {side} s<")
            self.refuses_rows("yard a", "street s a b 1", f"ban s> {side}")
            self.refuses_rows("yard a", "street s a b 1", "ban s> s<", f"ban {side} {side}")

    def test_an_unknown_first_word(self):
        for word in ("Yard", "yards", "yar", "town", "corner", "y", "YARD", "1", ">"):
            self.refuses_rows(word + " a")
        for word in ("Street", "streets", "road", "LANE", "lanes", "way", "1", "main"):
            self.refuses_rows("yard a", word + " s a b 1")
        for word in ("Ban", "bans", "turn", "banned", "s>"):
            self.refuses_rows("yard a", "street s a b 1", word + " s> s<")

    def test_rows_of_one_kind_with_the_words_of_another(self):
        self.refuses_rows("yard s a b 1")
        self.refuses_rows("yard s> s<")
        self.refuses_rows("yard a", "ban s a b 1")
        self.refuses_rows("yard a", "street s> s<")
        self.refuses_rows("yard a", "street a")
        self.refuses_rows("yard a", "street s a b 1", "ban a")

    def test_what_is_no_text_of_the_form_is_so_whether_or_not_its_town_would_fit(self):
        self.refuses_rows("yard a", "street s a b 1", "street s a b 1", "ban s> s< s>")
        self.refuses_rows("yard a", "street s a b 1", "ban t> t<", "street t a b 1")
        self.refuses_rows("yard a", "street s a b 1", "street s a b 0")
        self.refuses_rows("yard a", "ban s> t>", "ban s> t")

    def test_a_text_of_ninety_thousand_signs(self):
        self.refuses("a" * 90000)
        self.refuses(" " * 90000)
        self.refuses("\n" * 90000)
        self.refuses("yard a\n" * 12857)
        self.refuses("yard a\nban " + "a " * 44990)

    def test_each_other_sign_at_each_place(self):
        text = "yard a\nstreet s a b 12\nlane t b c 3\nban s> t>\nban s> s<"
        for place in range(len(text) + 1):
            for code in range(128):
                for changed in (text[:place] + chr(code) + text[place:], text[:place] + chr(code) + text[place + 1:]):
                    self.answers(changed)

    def test_each_sign_and_each_two_rows_left_out_or_changed_about(self):
        for place in range(len(TEXT)):
            self.answers(TEXT[:place] + TEXT[place + 1:])
            self.answers(TEXT[:place])
            self.answers(TEXT[place:])
        rows = TEXT.split("\n")
        for one in range(len(rows)):
            for other in range(len(rows)):
                changed = list(rows)
                changed[one] = rows[other]
                self.answers("\n".join(changed))
                changed[other] = rows[one]
                self.answers("\n".join(changed))
                self.answers("\n".join(rows[one:other]))

    def answers(self, text):
        told = asked_for(text)
        if told in (NoText, Unfit):
            self.refuses(text, told)
        else:
            self.assertEqual(read(text), told)


class UnfitTowns(Asking):
    def unfit(self, *rows):
        self.assertTrue(FORM.fullmatch("\n".join(rows)), rows)
        self.refuses("\n".join(rows), Unfit)

    def test_two_streets_of_one_name(self):
        self.unfit("yard a", "street s a b 1", "street s a b 1")
        self.unfit("yard a", "street s a b 1", "lane s c d 2")
        self.unfit("yard a", "lane s a b 1", "street t a b 1", "lane s b a 1")

    def test_a_ban_of_what_is_no_side_of_the_town(self):
        self.unfit("yard x", "street s a b 1", "ban t> s>")
        self.unfit("yard x", "street s a b 1", "ban s> t<")
        self.unfit("yard x", "ban s> s<")
        self.unfit("yard a", "ban abcdefgh> abcdefgh<")

    def test_a_ban_of_a_lanes_back_side(self):
        self.unfit("yard x", "lane s a b 1", "ban s> s<")
        self.unfit("yard x", "lane s a b 1", "ban s< s>")
        self.unfit("yard x", "lane s a a 1", "ban s> s<")

    def test_a_ban_of_sides_that_do_not_meet(self):
        self.unfit("yard x", "street s a b 1", "street t b c 1", "ban s< t>")
        self.unfit("yard x", "street s a b 1", "street t b c 1", "ban t> s>")
        self.unfit("yard x", "street s a b 1", "ban s> s>")

    def test_a_ban_in_the_yards_corner(self):
        self.unfit("yard b", "street s a b 1", "street t b c 1", "ban s> t>")
        self.unfit("yard a", "street s a b 1", "ban s< s>")
        self.unfit("yard a", "lane s a a 1", "ban s> s>")

    def test_a_ban_that_stands_twice(self):
        self.unfit("yard a", "street s a b 1", "ban s> s<", "ban s> s<")
        self.unfit("yard x", "street s a b 1", "ban s> s<", "ban s< s>", "ban s> s<")


class Showing(Asking):
    def test_towns_are_shown(self):
        for text, town in PAIRS:
            self.assertEqual(show(town), text)
            self.assertIs(show(town).__class__, str)

    def test_a_shown_town_read_again_is_that_town(self):
        for number in range(150):
            town = numbered_town(number, 30, 60)
            self.assertIs(fits(town), True)
            self.assertEqual(read(show(town)), town)

    def test_a_read_text_shown_again_is_that_text(self):
        for number in range(150):
            text = show(numbered_town(number, 30, 60))
            self.assertTrue(FORM.fullmatch(text), text)
            self.assertEqual(show(read(text)), text)
        for text, town in PAIRS:
            self.assertEqual(show(read(text)), text)

    def test_a_length_beyond_sixty_figures_is_shown_in_all_its_figures(self):
        text = show(("a", (("s", "a", "b", 10 ** 60, 2),), ()))
        self.assertEqual(text, "yard a\nstreet s a b 1" + "0" * 60)
        self.refuses(text)


class Keeping(unittest.TestCase):
    def test_what_is_handed_in_stays_as_it_is(self):
        kept = copy.deepcopy(TOWN)
        show(TOWN)
        self.assertEqual(TOWN, kept)
        for thing in ([], ["yard a"], {"yard": "a"}):
            same = copy.deepcopy(thing)
            with self.assertRaises(NoText):
                read(thing)
            self.assertEqual(thing, same)

    def test_what_is_refused_changes_nothing_that_is_read_later(self):
        for text in ("", "yard a\nyard a", "yard a\nstreet s a b 1\nstreet s a b 1"):
            with self.assertRaises((NoText, Unfit)):
                read(text)
            self.assertEqual(read(TEXT), TOWN)
            self.assertEqual(read("yard a"), ("a", (), ()))


if __name__ == "__main__":
    unittest.main()
