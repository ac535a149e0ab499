"""The refusals: point [2], its last sentence, and the interface's part kerb/errors.py."""

import unittest

from kerb import errors
from kerb.days import led_on, without
from kerb.desk import Desk
from kerb.few import least
from kerb.hands import parted
from kerb.reach import cut, length_all
from kerb.reader import read
from kerb.tellings import read_round, tell
from kerb.towns import begin_of, end_of, fitted, length_of
from kerb.turns import may_turn, turns_from, turns_into
from kerb.ways import price_between, price_home, price_out, prices_from, way_between, way_home, way_out
from kerb.words import words_of

REFUSALS = ("NoText", "Unfit", "Unknown", "TooMany", "NoRound", "NoTown")

TOWN = ("a", (("s", "a", "b", 3, 2),), ())
FULL = ("a", tuple((name, "a", "b", 3, 2) for name in ("s", "t", "u", "v")), ())
UNFIT = ("a", (("s", "a", "b", 0, 2),), ())


def desk_with_town():
    desk = Desk()
    desk.say("town yard a;street s a b 3")
    return desk


DEEDS = (
    ("NoText", lambda: words_of("a  b")),
    ("Unfit", lambda: fitted(UNFIT)),
    ("Unknown", lambda: begin_of(TOWN, "t>")),
    ("Unknown", lambda: end_of(TOWN, "t>")),
    ("Unknown", lambda: length_of(TOWN, "t>")),
    ("Unknown", lambda: turns_from(TOWN, "t>")),
    ("Unknown", lambda: turns_into(TOWN, "t>")),
    ("Unknown", lambda: may_turn(TOWN, "t>", "s>")),
    ("Unknown", lambda: may_turn(TOWN, "s>", "t>")),
    ("NoText", lambda: read("")),
    ("NoText", lambda: read(None)),
    ("NoText", lambda: read("yard a\n\n")),
    ("NoText", lambda: read("yard a\nstreet s a b 0")),
    ("Unfit", lambda: read("yard a\nstreet s a b 1\nlane s a b 1")),
    ("Unfit", lambda: read("yard a\nstreet s a b 1\nban s< s>")),
    ("Unknown", lambda: length_all(TOWN, ["s>", "t>"])),
    ("Unknown", lambda: cut(TOWN, "t>")),
    ("Unknown", lambda: price_between(TOWN, "t>", "s>")),
    ("Unknown", lambda: price_between(TOWN, "s>", "t>")),
    ("Unknown", lambda: prices_from(TOWN, "t>")),
    ("Unknown", lambda: price_out(TOWN, "t>")),
    ("Unknown", lambda: price_home(TOWN, "t>")),
    ("Unknown", lambda: way_between(TOWN, "t>", "s>")),
    ("Unknown", lambda: way_between(TOWN, "s>", "t>")),
    ("Unknown", lambda: way_out(TOWN, "t>")),
    ("Unknown", lambda: way_home(TOWN, "t>")),
    ("TooMany", lambda: least(FULL)),
    ("NoRound", lambda: parted(TOWN, ["s>"], 2)),
    ("NoRound", lambda: parted(TOWN, ["t>"], 2)),
    ("Unknown", lambda: without(TOWN, ["t"])),
    ("Unknown", lambda: led_on(TOWN, ["s>", "s<"], ["t"])),
    ("Unknown", lambda: led_on(TOWN, ["s>"], ["t"])),
    ("NoRound", lambda: led_on(TOWN, ["s>"], ["s"])),
    ("NoRound", lambda: tell(TOWN, ["s<"])),
    ("NoText", lambda: read_round(TOWN, "all 1")),
    ("NoText", lambda: read_round(TOWN, "do s> a b 3\nall 3")),
    ("NoText", lambda: read_round(TOWN, None)),
    ("NoText", lambda: Desk().say("")),
    ("NoText", lambda: Desk().say(None)),
    ("NoText", lambda: Desk().say("town yard")),
    ("NoText", lambda: desk_with_town().say("hands 0")),
    ("NoTown", lambda: Desk().say("served")),
    ("NoTown", lambda: Desk().say("shut t")),
    ("Unfit", lambda: Desk().say("town yard a;ban s> s<")),
    ("Unknown", lambda: desk_with_town().say("shut t")),
    ("Unknown", lambda: desk_with_town().say("open t")),
    ("Unknown", lambda: desk_with_town().say("cut t>")),
)


class Classes(unittest.TestCase):
    def test_the_base_is_a_value_error(self):
        self.assertTrue(issubclass(errors.KerbError, ValueError))

    def test_the_base_is_none_of_the_refusals(self):
        for name in REFUSALS:
            self.assertFalse(issubclass(errors.KerbError, getattr(errors, name)), name)

    def test_each_refusal_stands_under_the_base(self):
        for name in REFUSALS:
            self.assertTrue(issubclass(getattr(errors, name), errors.KerbError), name)

    def test_no_refusal_stands_under_another(self):
        for one in REFUSALS:
            for other in REFUSALS:
                if one != other:
                    self.assertFalse(issubclass(getattr(errors, one), getattr(errors, other)), (one, other))

    def test_each_can_be_raised_and_taken(self):
        for name in REFUSALS:
            for taken in (getattr(errors, name), errors.KerbError, ValueError):
                with self.assertRaises(taken):
                    raise getattr(errors, name)("told")


class Deeds(unittest.TestCase):
    def test_each_refusal_is_of_its_own_class(self):
        for name, deed in DEEDS:
            with self.assertRaises(errors.KerbError) as caught:
                deed()
            self.assertIs(caught.exception.__class__, getattr(errors, name))

    def test_each_refusal_is_among_them(self):
        self.assertEqual({name for name, deed in DEEDS}, set(REFUSALS))

    def test_the_base_and_value_error_take_each_refusal(self):
        for name, deed in DEEDS:
            for taken in (errors.KerbError, ValueError):
                with self.assertRaises(taken, msg=name):
                    deed()


if __name__ == "__main__":
    unittest.main()
