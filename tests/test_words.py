"""Words: points [4] and [5], and the interface's part kerb/words.py."""

import unittest

from kerb.errors import NoText
from kerb.words import is_name, is_number, is_side, rows_of, words_of

SIGNS = [chr(code) for code in range(128)]
LETTERS = "abcdefghijklmnopqrstuvwxyz"


class Words(unittest.TestCase):
    def tells(self, asked, word, told):
        self.assertIs(asked(word), told, repr(word))

    def tells_each(self, asked, words, told):
        for word in words:
            self.tells(asked, word, told)


class Names(Words):
    def test_names(self):
        self.tells_each(is_name, ("a", "z", "ab", "main", "zz", "abcdefg", LETTERS[:8], LETTERS[18:]), True)

    def test_the_word_without_signs_is_no_name(self):
        self.tells(is_name, "", False)

    def test_eight_letters_are_a_name_and_nine_are_none(self):
        self.tells(is_name, "a" * 8, True)
        self.tells(is_name, "a" * 9, False)
        self.tells(is_name, "a" * 90000, False)

    def test_each_sign_by_itself(self):
        for sign in SIGNS:
            self.tells(is_name, sign, sign in LETTERS)

    def test_each_sign_at_each_place(self):
        for sign in SIGNS:
            for word in (sign + "bc", "a" + sign + "c", "ab" + sign):
                self.tells(is_name, word, sign in LETTERS)

    def test_other_signs(self):
        self.tells_each(is_name, ("Main", "MAIN", "a b", " a", "a ", "a\t", "\ta", "a\n", "\na", "a1", "a_b"), False)
        self.tells_each(is_name, ("a>", "a<", "a-b", "a`", "a{", "a\r", "a\x00"), False)


class Numbers(Words):
    def test_numbers(self):
        self.tells_each(is_number, ("1", "9", "10", "1000", "1234567890", "909"), True)

    def test_the_word_without_signs_is_no_number(self):
        self.tells(is_number, "", False)

    def test_sixty_figures_are_a_number_and_sixty_one_are_none(self):
        self.tells(is_number, "9" * 60, True)
        self.tells(is_number, "1" + "0" * 59, True)
        self.tells(is_number, "9" * 61, False)
        self.tells(is_number, "1" + "0" * 60, False)
        self.tells(is_number, "1" * 90000, False)

    def test_a_nought_ahead(self):
        self.tells_each(is_number, ("0", "00", "01", "0123", "0" * 60, "0" + "1" * 59), False)

    def test_each_sign_by_itself(self):
        for sign in SIGNS:
            self.tells(is_number, sign, sign in "123456789")

    def test_each_sign_at_each_place(self):
        for sign in SIGNS:
            self.tells(is_number, sign + "23", sign in "123456789")
            self.tells(is_number, "1" + sign + "3", sign in "0123456789")
            self.tells(is_number, "12" + sign, sign in "0123456789")

    def test_other_signs(self):
        self.tells_each(is_number, ("-1", "+1", "1 ", " 1", "1\t", "\t1", "1\n", "\n1", "1_0", "1.0", "1e3"), False)
        self.tells_each(is_number, ("a", "A", "1a", "a1", "0x1", "1/", "1:"), False)


class Sides(Words):
    def test_sides(self):
        self.tells_each(is_side, ("a>", "a<", "main>", "main<", "abcdefgh>", "abcdefgh<"), True)

    def test_without_a_name_or_a_mark(self):
        self.tells_each(is_side, ("", ">", "<", "a", "main", "abcdefgh"), False)

    def test_nine_letters(self):
        self.tells_each(is_side, ("abcdefghi>", "abcdefghi<"), False)

    def test_marks_at_other_places(self):
        self.tells_each(is_side, (">a", "<a", "a>>", "a<<", "a><", "a<>", "a>b", ">a>", "<>", ">>"), False)

    def test_each_sign_behind_the_name(self):
        for sign in SIGNS:
            self.tells(is_side, "main" + sign, sign in "<>")

    def test_each_sign_in_the_name(self):
        for sign in SIGNS:
            for mark in "<>":
                self.tells(is_side, sign + mark, sign in LETTERS)
                self.tells(is_side, "a" + sign + mark, sign in LETTERS)

    def test_other_signs(self):
        self.tells_each(is_side, ("A>", "Main<", "a >", " a>", "a> ", "a\t>", "a>\t", "a\n>", "a>\n", "\na>"), False)
        self.tells_each(is_side, ("1>", "a1<", "a=", "a;"), False)


class Rows(unittest.TestCase):
    def test_the_words_of_a_row(self):
        self.assertEqual(words_of("yard a"), ["yard", "a"])
        self.assertEqual(words_of("street s a b 12"), ["street", "s", "a", "b", "12"])
        self.assertEqual(words_of("one"), ["one"])
        self.assertEqual(words_of("a a a"), ["a", "a", "a"])

    def test_words_are_parted_by_blanks_alone(self):
        self.assertEqual(words_of("a\tb c"), ["a\tb", "c"])
        self.assertEqual(words_of("\t"), ["\t"])
        self.assertEqual(words_of("a\nb c\n"), ["a\nb", "c\n"])
        self.assertEqual(words_of("A, -1 b>"), ["A,", "-1", "b>"])

    def test_a_word_without_signs_is_refused(self):
        for row in ("", " ", "  ", "a  b", " a", "a ", " a b", "a b ", "a b  c", "a   b", "  a", "a  "):
            with self.assertRaises(NoText, msg=repr(row)):
                words_of(row)

    def test_the_words_joined_are_the_row(self):
        for row in ("a", "a b", "x yy zzz", "ban a> b<"):
            self.assertEqual(" ".join(words_of(row)), row)

    def test_a_long_row(self):
        self.assertEqual(words_of(" ".join(["a"] * 45000)), ["a"] * 45000)

    def test_the_rows_of_a_text(self):
        self.assertEqual(rows_of("yard a"), ["yard a"])
        self.assertEqual(rows_of("yard a\nstreet s a b 1"), ["yard a", "street s a b 1"])
        self.assertEqual(rows_of("a\nb\na"), ["a", "b", "a"])

    def test_the_text_without_signs_has_no_rows(self):
        self.assertEqual(rows_of(""), [])

    def test_line_feeds_at_an_end(self):
        self.assertEqual(rows_of("a\n"), ["a", ""])
        self.assertEqual(rows_of("\na"), ["", "a"])
        self.assertEqual(rows_of("\n"), ["", ""])
        self.assertEqual(rows_of("\na\n"), ["", "a", ""])

    def test_line_feeds_side_by_side(self):
        self.assertEqual(rows_of("a\n\nb"), ["a", "", "b"])
        self.assertEqual(rows_of("\n\n"), ["", "", ""])

    def test_rows_are_parted_by_line_feeds_alone(self):
        for text in ("a\rb", "a\x0bb", "a\x0cb", "a\x1cb", "a\tb", "a b", " ", "a;b"):
            self.assertEqual(rows_of(text), [text])

    def test_a_row_is_not_looked_into(self):
        self.assertEqual(rows_of(" a  b \n "), [" a  b ", " "])

    def test_a_long_text(self):
        self.assertEqual(rows_of("\n".join(["a"] * 45000)), ["a"] * 45000)


class Lists(unittest.TestCase):
    def test_each_list_is_the_askers_own(self):
        for asked, text in ((words_of, "a b"), (rows_of, "a\nb"), (rows_of, "")):
            first = asked(text)
            kept = list(first)
            self.assertIs(first.__class__, list)
            second = asked(text)
            first.append("changed")
            first[0] = "changed"
            self.assertEqual(second, kept)
            self.assertEqual(asked(text), kept)


if __name__ == "__main__":
    unittest.main()
