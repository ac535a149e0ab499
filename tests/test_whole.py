"""The whole program: points [1], [2] and [3], and that all of the interface is there under its names."""

import copy
import importlib
import inspect
import os
import subprocess
import sys
import types
import unittest
from pathlib import Path

from kerb import errors
from kerb.days import led_on, without
from kerb.desk import Desk
from kerb.few import least
from kerb.hands import parted
from kerb.pairing import bound, pairing
from kerb.reach import cut, is_round, is_walk, length_all, served
from kerb.reader import read
from kerb.rounds import can_exchange, parts, round_of
from kerb.tellings import read_round, tell
from kerb.towns import fits, fitted, sides_of
from kerb.turns import turns_from, turns_into
from kerb.ways import prices_from, way_between, way_home, way_out
from kerb.words import rows_of, words_of
from kerb.writer import show
from tests import test_days, test_desk, test_few, test_hands, test_pairing, test_reach, test_rounds
from tests.samples import (APART, BANS, EMPTY, FAR, STREETS, great_town, lane_town, looped_town, numbered_town,
                           served_by_words, some_names, town_without, wandering_round)

TOP = Path(__file__).resolve().parent.parent
MODULES = sorted(path.stem for path in (TOP / "kerb").glob("*.py") if path.stem != "__init__")

# What is asked of a town is held against the points' words as the tests of each module do it.
REACH = test_reach.Reaching()
PAIRS = test_pairing.Pairings()
ROUNDS = test_rounds.Telling()
FEW = test_few.Telling()
HANDS = test_hands.Parting()
DAYS = test_days.Led()
DESK = test_desk.Asking()

INTERFACE = {
    "words": {"is_name": "word", "is_number": "word", "words_of": "row", "rows_of": "text", "is_side": "word"},
    "towns": {"fits": "town", "fitted": "town", "sides_of": "town", "begin_of": "town side", "end_of": "town side",
              "length_of": "town side"},
    "turns": {"turns_from": "town side", "turns_into": "town side", "may_turn": "town one other"},
    "reader": {"read": "text"},
    "writer": {"show": "town"},
    "reach": {"is_walk": "town sides", "is_round": "town sides", "length_all": "town sides", "served": "town",
              "cut": "town side"},
    "ways": {"price_between": "town one other", "prices_from": "town side", "price_out": "town side",
             "price_home": "town side", "way_between": "town one other", "way_out": "town side",
             "way_home": "town side"},
    "pairing": {"pairing": "town", "bound": "town"},
    "rounds": {"can_exchange": "town ring other", "parts": "town", "round_of": "town"},
    "few": {"least": "town"},
    "hands": {"parted": "town sides many"},
    "days": {"without": "town names", "led_on": "town sides names"},
    "tellings": {"tell": "town sides", "read_round": "town text"},
}

TOWN = ("a", STREETS, ())
BANNED = ("a", STREETS, BANS)
SMALL = ("a", (("s", "a", "b", 5, 2), ("t", "b", "c", 6, 2), ("l", "b", "b", 4, 1), ("away", "b", "d", 1, 1)), ())
ROUND = ["main>", "spin>", "lane>", "ring>", "back>", "main<"]

# Deeds that tell lists, or are handed lists, each with what is handed in.
DEEDS = (
    (words_of, ["street s a b 1"]),
    (rows_of, ["yard a\nstreet s a b 1"]),
    (rows_of, [""]),
    (sides_of, [TOWN]),
    (turns_from, [TOWN, "main>"]),
    (turns_into, [TOWN, "main<"]),
    (is_walk, [TOWN, list(ROUND)]),
    (is_round, [TOWN, list(ROUND)]),
    (length_all, [TOWN, list(ROUND)]),
    (served, [TOWN]),
    (served, [APART]),
    (cut, [APART, "away>"]),
    (cut, [APART, "from>"]),
    (prices_from, [TOWN, "main>"]),
    (way_between, [TOWN, "main>", "ring>"]),
    (way_out, [TOWN, "ring>"]),
    (way_home, [TOWN, "ring>"]),
    (pairing, [TOWN]),
    (bound, [TOWN]),
    (can_exchange, [TOWN, ["main>", "main<"], ["spin>"]]),
    (parts, [TOWN]),
    (round_of, [TOWN]),
    (round_of, [looped_town(20)]),
    (least, [SMALL]),
    (least, [EMPTY]),
    (parted, [TOWN, list(ROUND), 1]),
    (parted, [TOWN, list(ROUND), 4]),
    (parted, [TOWN, [], 4]),
    (without, [TOWN, ["lane", "spin", "lane"]]),
    (led_on, [TOWN, list(ROUND), ["lane", "spin"]]),
    (led_on, [TOWN, list(ROUND), []]),
    (tell, [TOWN, list(ROUND)]),
    (read_round, [TOWN, tell(TOWN, ROUND)]),
    (read_round, [TOWN, "all 0"]),
)


def lists_in(value):
    found = [value] if isinstance(value, list) else []
    if isinstance(value, (list, tuple)):
        for part in value:
            found += lists_in(part)
    return found


def change_lists(value):
    for found in lists_in(value):
        found.append("changed")
        found[0] = "changed"
        found.reverse()
        found.append("changed")


class Interface(unittest.TestCase):
    def test_each_function_has_its_name_and_arguments(self):
        for module in INTERFACE:
            for name, arguments in INTERFACE[module].items():
                told = getattr(importlib.import_module("kerb." + module), name)
                self.assertEqual(list(inspect.signature(told).parameters), arguments.split(" "), (module, name))

    def test_the_desk(self):
        self.assertEqual(list(inspect.signature(Desk).parameters), [])
        self.assertEqual(list(inspect.signature(Desk().say).parameters), ["row"])
        self.assertEqual(Desk().say(row="town yard a"), "ok")

    def test_each_module_is_there(self):
        self.assertLessEqual({"errors", "desk", *INTERFACE}, set(MODULES))


class Promise(unittest.TestCase):
    # Point [3], sentence by sentence, of one town; told is its round.
    def holds_of(self, town):
        sides = served_by_words(town)
        REACH.tells(town, sides)
        PAIRS.bounds(town)
        many = ROUNDS.round_fits(town)
        told = round_of(town)[0]
        if many < 2 or not town[2]:
            self.assertEqual(length_all(town, told), bound(town), town)
        if len(sides) <= 7:
            price = FEW.shows(town)[(), ""]
            self.assertTrue(bound(town) <= price <= length_all(town, told), town)
        else:
            FEW.refuses(town)
        HANDS.parts_well_among_all(town, told)
        self.assertEqual(read_round(town, tell(town, told)), told)
        return told

    # The town of a text; when streets are shut all is told anew, and the old round is led on. Told is the led round.
    def holds(self, text, names):
        town = read(text)
        self.assertEqual(show(town), text)
        told = self.holds_of(town)
        left = without(town, names)
        self.assertEqual(left, town_without(town, names))
        led = DAYS.leads_on(town, told, names)
        self.holds_of(left)
        self.assertIs(is_round(left, led), True)
        self.assertLessEqual(set(led), set(served(left)))
        self.assertEqual(read_round(left, tell(left, led)), led)
        HANDS.parts_well_among_all(left, led)
        self.holds_at_a_desk(text, town, names)
        return led

    def holds_at_a_desk(self, text, town, names):
        desk = Desk()
        self.assertEqual(desk.say("town " + text.replace("\n", ";")), "ok")
        DESK.answers_as_asked(desk, town)
        for name in names:
            self.assertEqual(desk.say("shut " + name), "ok")
        DESK.answers_as_asked(desk, without(town, names))

    def test_a_towns_text(self):
        text = "yard a\nstreet main a b 5\nstreet far b c 6\nlane over c a 7\nlane away b d 2\nlane from e a 3\n"
        text += "ban main> main<"
        town = read(text)
        self.assertEqual(served(town), ["main>", "main<", "far>", "far<", "over>"])
        self.assertEqual(cut(town, "away>"), ("home", ["away>"]))
        self.assertEqual(cut(town, "from>"), ("out", ["main>", "main<", "far>", "far<", "over>", "away>"]))
        # main> and far> lead out twice, once for each way home.
        self.assertEqual(bound(town), 29 + 5 + 6)
        self.assertEqual(len(round_of(town)[1]), 1)
        self.assertEqual(self.holds(text, []), round_of(town)[0])
        self.assertEqual(self.holds(text, ["away", "from"]), round_of(town)[0])
        self.assertEqual(self.holds(text, ["main"]), [])
        self.assertEqual(sorted(set(self.holds(text, ["over"]))), ["far<", "far>", "main<", "main>"])

    def test_towns_without_bans(self):
        for number in range(40):
            for town in (numbered_town(number), lane_town(number, 6, 6)):
                self.holds(show((town[0], town[1], ())), some_names(town, number))

    def test_towns_with_bans(self):
        for number in range(40):
            for town in (numbered_town(number, most_figures=60), looped_town(number), lane_town(number, 5, 8, 20)):
                self.holds(show(town), some_names(town, number))

    def test_towns_of_few_sides(self):
        seen = 0
        for number in range(60):
            town = numbered_town(number, most_streets=4)
            seen += 1 < len(served_by_words(town)) <= 7
            self.holds(show(town), some_names(town, number))
        self.assertGreater(seen, 10)

    def test_all_streets_shut(self):
        for town in (TOWN, BANNED, APART, FAR, SMALL):
            names = [street[0] for street in town[1]]
            self.assertEqual(self.holds(show(town), names), [])

    def test_a_great_town(self):
        town = great_town(4, 9)
        self.holds(show(town), [street[0] for street in town[1]][::6])
        town = test_rounds.town_of_eleven_parts()
        self.holds(show(town), [street[0] for street in town[1]][1::9])

    # What is told may be longer than what the bounds let be handed in, and is taken again.
    def test_what_is_told_may_be_handed_in_again(self):
        for number in range(2):
            town = great_town(number)
            sides = wandering_round(town, number, 900)
            names = [street[0] for street in town[1]][::3]
            led = led_on(town, sides + sides, names)
            left = without(town, names)
            self.assertEqual(read_round(left, tell(left, led)), led)
            self.assertEqual(led_on(left, led, []), led)
            self.assertEqual([side for hand in parted(left, led, 9) for side in hand[1]], led)


class OutsideNothing(unittest.TestCase):
    def test_nothing_but_the_programs_own_is_drawn_from(self):
        for module in MODULES:
            held = importlib.import_module("kerb." + module)
            for name, value in vars(held).items():
                if not name.startswith("__"):
                    self.assertNotIsInstance(value, (types.ModuleType, types.BuiltinFunctionType), (module, name))
                    if isinstance(value, (types.FunctionType, type)):
                        self.assertTrue(value.__module__.startswith("kerb."), (module, name))

    # In a program of its own, where whatever looks at a file, the net or another program ends it.
    def test_no_files_and_nothing_told_by_chance(self):
        source = (
            "import sys\n"
            "from kerb.days import led_on\nfrom kerb.desk import Desk\nfrom kerb.few import least\n"
            "from kerb.hands import parted\nfrom kerb.pairing import pairing\nfrom kerb.reader import read\n"
            "from kerb.rounds import round_of\n"
            "def stop(event, arguments):\n"
            "    if event.split('.')[0] in ('open', 'os', 'import', 'socket', 'subprocess', 'shutil', 'glob', 'time'):\n"
            "        raise SystemExit('looked outside: ' + event)\n"
            "texts = sys.argv[1:]\n"
            "sys.addaudithook(stop)\n"
            "told = []\n"
            "for text in texts:\n"
            "    town = read(text)\n"
            "    sides, rings = round_of(town)\n"
            "    told.append((sides, rings, pairing(town), parted(town, sides, 3), led_on(town, sides, ['main'])))\n"
            "    desk = Desk()\n"
            "    for row in ('town ' + text.replace('\\n', ';'), 'served', 'bound', 'round', 'parts', 'long', 'tell',\n"
            "                'hands 4', 'cut main>', 'shut main', 'round', 'hands 2', 'open main', 'tell'):\n"
            "        told.append(desk.say(row))\n"
            "told.append(least(read('yard a\\nstreet s a b 1\\nlane t a b 2\\nlane u b b 3')))\n"
            "sys.stdout.write(repr(told))\n")
        texts = [show(town) for town in (TOWN, BANNED, looped_town(7), looped_town(20))]
        told = []
        for seed in ("0", "1", "2"):
            # Bytecode would be written as files, ahead of the hook but none of the program's own doing.
            around = dict(os.environ, PYTHONHASHSEED=seed, PYTHONDONTWRITEBYTECODE="1", PYTHONPATH=str(TOP))
            done = subprocess.run([sys.executable, "-c", source, *texts], env=around, capture_output=True, text=True)
            self.assertEqual((done.returncode, done.stderr), (0, ""))
            told.append(done.stdout)
        self.assertGreater(len(told[0]), 1000)
        self.assertEqual(told, told[:1] * 3)


class Keeping(unittest.TestCase):
    def test_nothing_that_is_handed_in_is_changed(self):
        for deed, given in DEEDS:
            kept = copy.deepcopy(given)
            deed(*given)
            self.assertEqual(given, kept, deed)

    def test_each_told_list_is_a_new_one(self):
        for deed, given in DEEDS:
            told = [deed(*given), deed(*given)]
            lists = lists_in(told)[1:] + lists_in(given)
            self.assertEqual(len({id(each) for each in lists}), len(lists), deed)

    def test_what_was_told_and_then_changed_changes_nothing(self):
        for deed, given in DEEDS:
            told = deed(*given)
            kept = copy.deepcopy(told)
            change_lists(told)
            self.assertEqual(deed(*given), kept, deed)
        for deed, given in DEEDS:
            kept = copy.deepcopy(deed(*given))
            for other, arguments in DEEDS:
                change_lists(other(*arguments))
            self.assertEqual(deed(*given), kept, deed)

    def test_what_was_handed_in_and_then_changed_changes_nothing(self):
        for deed, given in DEEDS:
            handed = copy.deepcopy(given)
            told = deed(*handed)
            kept = copy.deepcopy(told)
            for place in range(len(handed)):
                change_lists(handed[place])
            self.assertEqual(told, kept, deed)
            self.assertEqual(deed(*given), kept, deed)

    def test_a_desk_keeps_to_its_own(self):
        desk = Desk()
        desk.say("town " + show(TOWN).replace("\n", ";"))
        before = [desk.say(row) for row in ("round", "tell", "hands 5", "served")]
        told = round_of(TOWN)
        change_lists(told)
        change_lists(served(TOWN))
        self.assertEqual([desk.say(row) for row in ("round", "tell", "hands 5", "served")], before)

    def test_numbers_are_no_truths(self):
        for deed, given in DEEDS:
            told = deed(*given)
            if deed in (is_walk, is_round, can_exchange):
                self.assertIn(told, (True, False))
            else:
                self.holds_no_truth(told)

    def holds_no_truth(self, value):
        self.assertIn(value.__class__, (int, str, list, tuple))
        if isinstance(value, (list, tuple)):
            for part in value:
                self.holds_no_truth(part)

    def test_truths_as_lengths_and_ways_make_no_town(self):
        for street in (("s", "a", "b", True, 2), ("s", "a", "b", 3, True), ("s", "a", "b", False, 1)):
            self.assertIs(fits(("a", (street,), ())), False)
            with self.assertRaises(errors.Unfit):
                fitted(("a", (street,), ()))


if __name__ == "__main__":
    unittest.main()
