"""Towns without some streets, and rounds led on there: point [24], and the interface's part kerb/days.py."""

import copy
import itertools
import unittest

from kerb.days import led_on, without
from kerb.errors import NoRound, Unknown
from kerb.rounds import round_of
from kerb.towns import fits
from tests.samples import (APART, BANS, EMPTY, FAR, NO_SIDES, SIDES, STREETS, great_town, is_round_by_words, lane_town,
                           lengths_of, looped_town, numbered_town, prices_by_words, served_by_words, some_names,
                           town_without, wandering_round)

TOWN = ("a", STREETS, BANS)
PLAIN = ("a", STREETS, ())
NAMES = ["main", "lane", "back", "ring", "spin"]
ROUND = ["main>", "spin>", "lane>", "ring>", "back>", "back<", "ring<", "back>", "main<"]
GREAT = 10 ** 60 - 1

NO_NAMES = ("", "other", "Main", "MAIN", "main>", "main<", "a", "b", "c", "mai", "mainn", " main", "main ", "main\n",
            "main lane", "yard", "main,lane", "ain", "1", "-")


class Without(unittest.TestCase):
    def leaves(self, town, names, streets, bans):
        told = without(town, names)
        self.assertEqual(told, (town[0], streets, bans), names)
        self.is_a_town(told)

    def is_a_town(self, told):
        self.assertIs(fits(told), True)
        self.assertEqual([part.__class__ for part in told], [str, tuple, tuple])
        for part in told[1] + told[2]:
            self.assertIs(part.__class__, tuple)
        self.assertIs(told.__class__, tuple)

    def test_no_names(self):
        for town in (TOWN, PLAIN, EMPTY, APART, FAR, ("far", STREETS, ())):
            self.leaves(town, [], town[1], town[2])

    def test_one_name(self):
        self.leaves(PLAIN, ["main"], STREETS[1:], ())
        self.leaves(PLAIN, ["spin"], STREETS[:-1], ())
        self.leaves(PLAIN, ["back"], STREETS[:2] + STREETS[3:], ())

    def test_a_one_way_street(self):
        self.leaves(PLAIN, ["lane"], STREETS[:1] + STREETS[2:], ())
        self.leaves(TOWN, ["lane"], STREETS[:1] + STREETS[2:], BANS[1:])

    def test_more_names_in_any_order(self):
        for many in range(6):
            for names in itertools.permutations(NAMES, many):
                self.leaves(PLAIN, list(names), tuple(each for each in STREETS if each[0] not in names), ())

    def test_a_name_told_twice(self):
        self.leaves(TOWN, ["lane", "lane"], STREETS[:1] + STREETS[2:], BANS[1:])
        self.leaves(TOWN, ["lane", "main", "lane", "main", "lane"], STREETS[2:], BANS[1:])
        self.leaves(PLAIN, NAMES + NAMES, (), ())

    def test_all_streets(self):
        self.leaves(TOWN, NAMES, (), ())
        self.leaves(PLAIN, NAMES[::-1], (), ())
        self.leaves(("far", STREETS, ()), NAMES, (), ())
        self.leaves(("a", STREETS[:1], ()), ["main"], (), ())

    def test_bans_in_which_a_shut_streets_side_stands(self):
        streets = tuple((name, "b", "b", 1, 2) for name in ("s", "t", "u"))
        bans = (("s>", "t>"), ("t<", "u>"), ("u<", "u<"), ("s<", "u>"), ("u>", "s<"), ("t>", "t<"), ("u>", "u<"))
        town = ("a", streets, bans)
        self.leaves(town, [], streets, bans)
        self.leaves(town, ["s"], streets[1:], (("t<", "u>"), ("u<", "u<"), ("t>", "t<"), ("u>", "u<")))
        self.leaves(town, ["t"], (streets[0], streets[2]), (("u<", "u<"), ("s<", "u>"), ("u>", "s<"), ("u>", "u<")))
        self.leaves(town, ["u"], streets[:2], (("s>", "t>"), ("t>", "t<")))
        self.leaves(town, ["t", "s"], streets[2:], (("u<", "u<"), ("u>", "u<")))
        self.leaves(town, ["s", "u"], streets[1:2], (("t>", "t<"),))

    def test_as_the_first_or_the_second_side_alone(self):
        streets = (("s", "x", "b", 1, 1), ("t", "b", "c", 1, 1), ("u", "b", "d", 1, 1))
        town = ("a", streets, (("s>", "t>"), ("s>", "u>")))
        self.leaves(town, ["s"], streets[1:], ())
        self.leaves(town, ["t"], (streets[0], streets[2]), (("s>", "u>"),))
        self.leaves(town, ["u"], streets[:2], (("s>", "t>"),))

    def test_names_that_are_a_part_of_others(self):
        streets = tuple((name, "b", "b", 1, 2) for name in ("s", "ss", "sst", "t", "ts"))
        bans = (("ss>", "sst<"), ("s>", "ss<"), ("t>", "ts>"), ("ts<", "ss>"), ("sst>", "sst>"))
        town = ("a", streets, bans)
        self.leaves(town, ["s"], streets[1:], (bans[0],) + bans[2:])
        self.leaves(town, ["t"], streets[:3] + streets[4:], bans[:2] + bans[3:])
        self.leaves(town, ["ss"], (streets[0],) + streets[2:], (bans[2], bans[4]))
        self.leaves(town, ["sst"], streets[:2] + streets[3:], bans[1:4])

    def test_a_street_called_like_a_corner(self):
        streets = (("a", "a", "b", 1, 2), ("b", "b", "a", 1, 2))
        self.leaves(("a", streets, ()), ["a"], streets[1:], ())
        self.leaves(("a", streets, ()), ["b"], streets[:1], ())

    def test_many_towns(self):
        for number in range(200):
            for town in (numbered_town(number), looped_town(number), lane_town(number)):
                names = some_names(town, number)
                self.assertEqual(without(town, names), town_without(town, names))
                self.is_a_town(without(town, names))

    def test_shut_one_behind_the_other(self):
        for number in range(50):
            town = numbered_town(number)
            names = some_names(town, number)
            left = town
            for name in names:
                left = without(left, [name])
            self.assertEqual(left, without(town, names))
            for name in names:
                with self.assertRaises(Unknown):
                    without(left, [name])

    def test_a_great_town(self):
        town = great_town(1)
        names = [street[0] for street in town[1]]
        for name in names:
            self.assertEqual(without(town, [name]), town_without(town, [name]))
        self.assertEqual(without(town, names[::2] * 3), town_without(town, names[::2]))


class Led(unittest.TestCase):
    # The sides that are left in their order, joined and led home, as long as they and the prices: as no walk between
    # two is shorter than the price, each way is a least one then.
    def leads_on(self, town, sides, names):
        told = led_on(town, list(sides), list(names))
        left = town_without(town, names)
        served = served_by_words(left)
        kept = [side for side in sides if side in served]
        self.assertIs(told.__class__, list)
        self.assertTrue(is_round_by_words(left, told), (town, sides, names, told))
        rest = iter(told)
        self.assertTrue(all(side in rest for side in kept), (town, sides, names, told))
        self.assertEqual(sum(lengths_of(left)[side] for side in told), self.length_of_led(left, kept),
                         (town, sides, names, told))
        if not kept:
            self.assertEqual(told, [])
        return told

    def length_of_led(self, left, kept):
        if not kept:
            return 0
        prices = prices_by_words(left)
        lengths = lengths_of(left)
        return (prices[("", kept[0])] + sum(lengths[side] for side in kept) + prices[(kept[-1], "")]
                + sum(prices[pair] for pair in zip(kept, kept[1:])))

    def test_no_names(self):
        for sides in ([], ROUND, ROUND + ROUND, ["main>", "main<"], ["main>", "spin>", "main<"] * 3):
            self.assertEqual(self.leads_on(TOWN, sides, []), sides)

    def test_a_street_that_the_round_does_not_go_along(self):
        self.assertEqual(self.leads_on(TOWN, ["main>", "main<"] * 2, ["lane", "spin"]), ["main>", "main<"] * 2)
        self.assertEqual(self.leads_on(TOWN, ["main>", "spin>", "main<"], ["ring", "back"]), ["main>", "spin>", "main<"])

    def test_a_street_amid_the_round(self):
        self.assertEqual(self.leads_on(PLAIN, ["main>", "lane>", "ring>", "back>", "main<"], ["lane"]),
                         ["main>", "back<", "ring>", "back>", "main<"])
        self.assertEqual(self.leads_on(PLAIN, ["main>", "lane>", "ring>", "back>", "main<"], ["ring"]),
                         ["main>", "lane>", "back>", "main<"])

    def test_a_way_out_and_a_way_home_are_new(self):
        streets = (("one", "a", "b", 1, 2), ("two", "a", "b", 4, 2), ("far", "b", "c", 2, 2))
        town = ("a", streets, ())
        self.assertEqual(self.leads_on(town, ["one>", "far>", "far<", "one<"], ["one"]),
                         ["two>", "far>", "far<", "two<"])
        self.assertEqual(self.leads_on(town, ["one>", "far>", "far<", "two<"], ["two"]),
                         ["one>", "far>", "far<", "one<"])

    def test_sides_that_are_cut_off(self):
        town = ("a", (("near", "a", "b", 5, 2), ("far", "b", "c", 6, 2), ("farther", "c", "d", 7, 2)), ())
        sides = ["near>", "far>", "farther>", "farther<", "far<", "near<"]
        self.assertEqual(self.leads_on(town, sides, ["far"]), ["near>", "near<"])
        self.assertEqual(self.leads_on(town, sides, ["farther"]), ["near>", "far>", "far<", "near<"])
        self.assertEqual(self.leads_on(town, sides, ["near"]), [])

    def test_a_lane_home_is_shut(self):
        streets = (("out", "a", "b", 1, 2), ("away", "b", "c", 2, 1), ("home", "c", "a", 3, 1))
        self.assertEqual(self.leads_on(("a", streets, ()), ["out>", "away>", "home>", "out>", "out<"], ["home"]),
                         ["out>", "out<", "out>", "out<"])
        self.assertEqual(self.leads_on(("a", streets, ()), ["out>", "away>", "home>"], ["home"]), ["out>", "out<"])
        self.assertEqual(self.leads_on(("a", streets, ()), ["out>", "away>", "home>"], ["out"]), [])

    def test_of_none_left_nothing(self):
        for town in (TOWN, PLAIN):
            self.assertEqual(self.leads_on(town, ROUND, NAMES), [])
            self.assertEqual(self.leads_on(town, ROUND, ["main"]), [])
            self.assertEqual(self.leads_on(town, [], ["lane"]), [])
            self.assertEqual(self.leads_on(town, [], NAMES), [])
        self.assertEqual(led_on(EMPTY, [], []), [])

    # The rest of the town is served still, but the round went along none of it.
    def test_of_none_left_nothing_though_others_are_served(self):
        town = ("a", (("s", "a", "b", 1, 2), ("t", "a", "b", 2, 2)), ())
        self.assertEqual(self.leads_on(town, ["s>", "s<"], ["s"]), [])
        self.assertEqual(self.leads_on(town, ["t>", "t<"], ["t"]), [])

    def test_each_as_often_as_it_stands_there(self):
        sides = ["main>", "spin>", "spin>", "lane>", "ring>", "ring>", "ring<", "back>", "spin>", "main<"] * 2
        told = self.leads_on(PLAIN, sides, ["lane"])
        for side in ("spin>", "ring>", "ring<", "back>", "main>", "main<"):
            self.assertGreaterEqual(told.count(side), sides.count(side))
        self.assertEqual(told.count("spin>"), 6)
        self.assertEqual(told.count("ring>"), 4)
        self.assertNotIn("lane>", told)

    def test_the_order_is_the_rounds(self):
        town = ("a", tuple((name, "a", "a", 1, 1) for name in "stuv"), ())
        for sides in itertools.permutations(["s>", "t>", "u>", "v>", "u>"]):
            self.assertEqual(self.leads_on(town, list(sides), ["t"]), [side for side in sides if side != "t>"])
            self.assertEqual(self.leads_on(town, list(sides), ["u", "s"]), [side for side in sides if side in "t>v>"])

    def test_a_way_between_may_lead_through_the_yard(self):
        streets = (("in", "a", "b", 1, 1), ("link", "b", "c", 1, 1), ("out", "c", "a", 1, 1), ("back", "b", "a", 9, 1),
                   ("over", "a", "c", 8, 1))
        self.assertEqual(self.leads_on(("a", streets, ()), ["in>", "link>", "out>"], ["link"]),
                         ["in>", "back>", "over>", "out>"])

    def test_bans_that_stay_ask_for_longer_ways(self):
        streets = (("main", "a", "b", 1, 2), ("one", "b", "c", 1, 2), ("two", "b", "c", 1, 2), ("o", "b", "b", 7, 1))
        bans = (("main>", "two>"), ("two<", "main<"))
        sides = ["main>", "one>", "two<", "two>", "one<", "main<"]
        self.assertEqual(self.leads_on(("a", streets, bans), sides, ["one"]),
                         ["main>", "o>", "two>", "two<", "two>", "two<", "o>", "main<"])

    def test_bans_of_shut_streets_are_gone(self):
        streets = (("main", "a", "b", 1, 2), ("one", "b", "b", 1, 1), ("two", "b", "b", 1, 1))
        town = ("a", streets, (("one>", "one>"), ("one>", "two>"), ("two>", "one>")))
        sides = ["main>", "one>", "main<", "main>", "two>", "two>", "main<"]
        self.assertEqual(self.leads_on(town, sides, ["one"]), ["main>", "main<", "main>", "two>", "two>", "main<"])
        self.assertEqual(self.leads_on(town, sides, ["two"]), ["main>", "one>", "main<", "main>", "main<"])

    def test_a_name_told_twice(self):
        sides = ["main>", "lane>", "ring>", "back>", "main<"]
        for names in (["lane", "lane"], ["lane", "lane", "lane"]):
            self.assertEqual(self.leads_on(PLAIN, sides, names), ["main>", "back<", "ring>", "back>", "main<"])

    def test_great_lengths(self):
        streets = (("s", "a", "b", GREAT, 2), ("t", "b", "c", GREAT, 2), ("u", "a", "c", 10 ** 59, 1))
        town = ("a", streets, ())
        self.leads_on(town, ["s>", "t>", "t<", "s<", "u>", "t<", "s<"], ["u"])
        self.leads_on(town, ["s>", "t>", "t<", "s<", "u>", "t<", "s<"], [])
        told = self.leads_on(town, ["s>", "t>", "t<", "t>", "t<", "s<", "u>", "t<", "s<"], ["s"])
        self.assertEqual(told, [])

    def test_the_towns_own_rounds(self):
        seen = 0
        for number in range(80):
            for town in (numbered_town(number), looped_town(number), lane_town(number, 6, 6)):
                sides = round_of(town)[0]
                names = some_names(town, number)
                seen += 0 < len(self.leads_on(town, sides, names)) != len(sides)
        self.assertGreater(seen, 40)

    def test_wandering_rounds(self):
        seen = 0
        for number in range(80):
            for town in (numbered_town(number, most_figures=3), lane_town(number, 6, 6, most_figures=2)):
                sides = wandering_round(town, number, number % 40)
                names = some_names(town, number)
                self.assertEqual(led_on(town, sides, []), sides)
                seen += 0 < len(self.leads_on(town, sides, names)) != len(sides)
        self.assertGreater(seen, 30)

    def test_a_round_of_nine_hundred_sides_in_a_great_town(self):
        for number in range(3):
            town = great_town(number)
            sides = wandering_round(town, number, 900)
            self.assertGreaterEqual(len(sides), 900)
            self.assertEqual(led_on(town, sides, []), sides)
            self.leads_on(town, sides, [street[0] for street in town[1]][::5])


class Refusals(unittest.TestCase):
    def refuses(self, refusal, town, sides, names):
        with self.assertRaises(refusal, msg=(town, sides, names)) as caught:
            led_on(town, sides, names)
        self.assertIs(caught.exception.__class__, refusal)

    def unknown(self, town, names):
        with self.assertRaises(Unknown, msg=names) as caught:
            without(town, names)
        self.assertIs(caught.exception.__class__, Unknown)
        for sides in ([], ["main>", "main<"], ["main>"], ["other>"], ["main<", "main<"]):
            self.refuses(Unknown, town, sides, names)

    def test_a_name_that_is_no_streets(self):
        for name in NO_NAMES:
            for town in (TOWN, PLAIN):
                self.unknown(town, [name])
            self.unknown(EMPTY, [name])
        self.unknown(EMPTY, ["main"])

    def test_among_others(self):
        for name in NO_NAMES:
            for names in ([name, "main"], ["main", name], ["main", name, "lane"], NAMES + [name], [name] + NAMES,
                          ["main", "main", name], [name, name]):
                self.unknown(TOWN, names)

    def test_a_side_of_the_town_is_no_name(self):
        for side in SIDES + list(NO_SIDES):
            if side not in NAMES:
                self.unknown(PLAIN, [side])

    def test_no_round(self):
        for names in ([], ["lane"], ["main"], NAMES, ["lane", "lane"]):
            for sides in (["main>"], ["main<"], ["main>", "main>"], ["main>", "ring>", "main<"], ["spin>", "main<"],
                          ["other>"], ["main>", "lane<", "main<"], ["main>", "main<", ""], ["main>", "main<", "main"]):
                self.refuses(NoRound, TOWN, sides, names)
        for text in NO_SIDES:
            self.refuses(NoRound, TOWN, [text], [])
            self.refuses(NoRound, TOWN, ["main>", text, "main<"], ["lane"])
            self.refuses(NoRound, EMPTY, [text], [])

    def test_a_banned_turn(self):
        sides = ["main>", "lane>", "back>", "main<"]
        led_on(PLAIN, sides, ["lane"])
        self.refuses(NoRound, TOWN, sides, [])
        self.refuses(NoRound, TOWN, sides, ["lane"])

    # It would be a round without the shut street, where the ban is gone; it is asked of the town with it.
    def test_what_is_a_round_of_the_other_town_alone(self):
        streets = (("s", "a", "b", 1, 2), ("t", "b", "c", 1, 2))
        self.refuses(NoRound, ("a", streets, (("s>", "s<"),)), ["s>", "s<"], ["t"])
        self.assertEqual(led_on(("a", streets, (("t>", "t<"),)), ["s>", "s<"], ["t"]), ["s>", "s<"])


class Keeping(unittest.TestCase):
    def test_what_is_handed_in_stays(self):
        for names in ([], ["lane"], ["lane", "lane"], NAMES[:], ["other"]):
            for sides in ([], list(ROUND), ["main>"]):
                kept = (copy.deepcopy(TOWN), list(sides), list(names))
                for deed in (lambda: without(TOWN, names), lambda: led_on(TOWN, sides, names)):
                    try:
                        deed()
                    except (Unknown, NoRound):
                        pass
                self.assertEqual((TOWN, sides, names), kept)

    def test_a_led_round_is_the_askers_own(self):
        for names in ([], ["lane"], ["main"]):
            sides = list(ROUND)
            told = led_on(TOWN, sides, names)
            kept = list(told)
            self.assertIsNot(told, sides)
            sides.clear()
            self.assertEqual(told, kept)
            told.append("changed")
            self.assertEqual(led_on(TOWN, list(ROUND), names), kept)

    def test_names_changed_later_change_nothing(self):
        names = ["lane"]
        left = without(TOWN, names)
        names.append("main")
        names[0] = "back"
        self.assertEqual(left, town_without(TOWN, ["lane"]))
        self.assertEqual(without(TOWN, ["lane"]), left)


if __name__ == "__main__":
    unittest.main()
