"""What several tests ask of: a town, what is none of its sides, towns and rounds by number, and turns, prices, rounds
and towns without some streets by the document's words."""

import functools
import random

# A two-way street, a lane, two streets between the same corners, a loop both ways and a loop one way.
STREETS = (
    ("main", "a", "b", 5, 2),
    ("lane", "b", "c", 7, 1),
    ("back", "c", "b", 2, 2),
    ("ring", "c", "c", 3, 2),
    ("spin", "b", "b", 4, 1),
)
SIDES = ["main>", "main<", "lane>", "back>", "back<", "ring>", "ring<", "spin>"]
BEGINS = ["a", "b", "b", "c", "b", "c", "c", "b"]
ENDS = ["b", "a", "c", "b", "c", "c", "c", "b"]
LENGTHS = [5, 5, 7, 2, 2, 3, 3, 4]
EMPTY = ("a", (), ())
BANS = (("main>", "lane>"), ("back<", "back>"), ("ring>", "ring<"), ("spin>", "spin>"))

# A street at the yard; lanes that lead away and never home; a lane that leads home from where none comes;
# a street that hangs together with nothing.
APART = (
    "a",
    (
        ("main", "a", "b", 5, 2),
        ("away", "b", "c", 1, 1),
        ("end", "c", "d", 2, 2),
        ("from", "e", "a", 3, 1),
        ("isle", "x", "y", 4, 2),
    ),
    (),
)

NO_SIDES = ("", ">", "<", "main", "lane", "lane<", "spin<", "other>", "other<", "Main>", "main>>", "main> ", " main>",
            "main>\n", "main\t>", ">main", "a", "b", "main=", "lane>lane>", "main>main<", "abcdefghi>")


# The corners where each side begins and ends, from the town's tuple alone.
def corners_of(town):
    corners = {}
    for name, first, second, length, ways in town[1]:
        corners[name + ">"] = (first, second)
        if ways == 2:
            corners[name + "<"] = (second, first)
    return corners


# All (one, other) such that one may turn from the one into the other.
def all_allowed(town):
    corners = corners_of(town)
    return {(one, other) for one in corners for other in corners if corners[one][1] == corners[other][0]} - set(town[2])


def is_allowed(town, one, other):
    corners = corners_of(town)
    return corners[one][1] == corners[other][0] and (one, other) not in town[2]


# One and the same town for a number, with bans of sides that meet off the yard's corner.
def numbered_town(number, most_streets=9, most_figures=1):
    chance = random.Random(number)
    corners = "abcdef"[:chance.randrange(1, 7)]
    streets = tuple(
        ("s" * chance.randrange(1, 7) + chr(ord("a") + k // 6) + chr(ord("a") + k % 6),
         chance.choice(corners), chance.choice(corners),
         chance.randrange(1, 10 ** chance.randrange(1, most_figures + 1)), chance.choice((1, 2)))
        for k in range(chance.randrange(0, most_streets + 1)))
    yard = chance.choice(corners)
    places = corners_of((yard, streets, ()))
    meeting = [(one, other) for one in places for other in places if places[one][1] == places[other][0] != yard]
    return (yard, streets, tuple(chance.sample(meeting, min(len(meeting), chance.randrange(0, 21)))))


def lengths_of(town):
    lengths = {}
    for name, first, second, length, ways in town[1]:
        lengths[name + ">"] = length
        if ways == 2:
            lengths[name + "<"] = length
    return lengths


# The prices of points [12] and [13], by their words: of each two sides between which a walk leads; "" stands for the
# yard, so ("", side) has the price out and (side, "") the price home. Side by side is let lie between. Only read.
@functools.lru_cache(maxsize=16)
def prices_by_words(town):
    corners = corners_of(town)
    lengths = lengths_of(town)
    prices = {pair: 0 for pair in all_allowed(town)}
    prices.update({("", side): 0 for side in corners if corners[side][0] == town[0]})
    prices.update({(side, ""): 0 for side in corners if corners[side][1] == town[0]})
    for middle in corners:
        firsts = [one for one in ["", *corners] if (one, middle) in prices]
        lasts = [other for other in ["", *corners] if (middle, other) in prices]
        ahead = {one: prices[(one, middle)] + lengths[middle] for one in firsts}
        behind = {other: prices[(middle, other)] for other in lasts}
        for one in firsts:
            for other in lasts:
                price = ahead[one] + behind[other]
                prices[(one, other)] = min(price, prices.get((one, other), price))
    return prices


def served_by_words(town):
    prices = prices_by_words(town)
    return [side for side in corners_of(town) if ("", side) in prices and (side, "") in prices]


# A yard with one street to a corner of loops. Each loop may be a ring by itself, and there are so many bans between
# them that rings often cannot be exchanged.
def looped_town(number, most_loops=6, most_bans=20):
    chance = random.Random(f"loops {number}")
    streets = (("main", "a", "b", chance.randrange(1, 10), 2),) + tuple(
        ("o" + chr(ord("a") + k), "b", "b", chance.randrange(1, 10), chance.choice((1, 1, 2)))
        for k in range(chance.randrange(1, most_loops + 1)))
    places = corners_of(("a", streets, ()))
    meeting = [(one, other) for one in places for other in places
               if places[one][1] == places[other][0] == "b" and one != other and (one, other) != ("main>", "main<")]
    return ("a", streets, tuple(chance.sample(meeting, min(len(meeting), chance.randrange(0, most_bans + 1)))))


# A ring of lanes through all corners and some lanes across, so that some have to be gone along more than once.
def lane_town(number, most_corners=3, most_across=4, most_bans=2, most_figures=1):
    chance = random.Random(f"lanes {number}")
    corners = "abcdefghi"[:chance.randrange(2, most_corners + 1)]
    ends = list(zip(corners, corners[1:] + corners[0])) + [
        tuple(chance.choices(corners, k=2)) for k in range(chance.randrange(1, most_across + 1))]
    streets = tuple(("l" + chr(ord("a") + k), first, second, chance.randrange(1, 10 ** most_figures), 1)
                    for k, (first, second) in enumerate(ends))
    places = corners_of(("a", streets, ()))
    meeting = [(one, other) for one in places for other in places if places[one][1] == places[other][0] != "a"]
    return ("a", streets, tuple(chance.sample(meeting, min(len(meeting), chance.randrange(0, most_bans + 1)))))


# As large as point [2] tells: thirty streets both ways, twenty bans, lengths of up to sixty figures.
def great_town(number, many_corners=12):
    chance = random.Random(f"great {number}")
    corners = ["c" + chr(ord("a") + k) for k in range(many_corners)]
    streets = tuple(
        ("s" + chr(ord("a") + k // 6) + chr(ord("a") + k % 6), chance.choice(corners), chance.choice(corners),
         chance.randrange(10 ** 59, 10 ** 60), 2) for k in range(30))
    places = corners_of((corners[0], streets, ()))
    meeting = [(one, other) for one in places for other in places if places[one][1] == places[other][0] != corners[0]]
    return (corners[0], streets, tuple(chance.sample(meeting, min(20, len(meeting)))))


def is_round_by_words(town, sides):
    corners = corners_of(town)
    if not sides:
        return True
    if not all(side in corners for side in sides) or corners[sides[0]][0] != town[0] or corners[sides[-1]][1] != town[0]:
        return False
    return all(is_allowed(town, one, other) for one, other in zip(sides, sides[1:]))


# A round that wanders for so many sides and then goes home: along the same sides again, and through the yard's corner.
def wandering_round(town, number, many):
    chance = random.Random(f"round {number}")
    corners = corners_of(town)
    lengths = lengths_of(town)
    prices = prices_by_words(town)
    sides = served_by_words(town)
    told = []
    while sides:
        ahead = [side for side in sides if corners[side][0] == town[0]] if not told else [
            side for side in sides if is_allowed(town, told[-1], side)]
        if len(told) < many:
            told.append(chance.choice(ahead))
        elif told and corners[told[-1]][1] != town[0]:
            told.append(min(ahead, key=lambda side: lengths[side] + prices[(side, "")]))
        else:
            break
    return told


# Point [24], by its words.
def town_without(town, names):
    shut = [name + sign for name in names for sign in "<>"]
    return (town[0], tuple(street for street in town[1] if street[0] not in names),
            tuple(ban for ban in town[2] if not set(ban) & set(shut)))


def some_names(town, number):
    chance = random.Random(f"shut {number}")
    names = [street[0] for street in town[1]]
    return chance.sample(names, chance.randrange(0, min(3, len(names)) + 1))


# A yard with a short street to a corner, lanes in a ring behind it, and one long street far out.
FAR = (
    "a",
    (
        ("near", "a", "b", 1, 2),
        ("round", "b", "c", 3, 1),
        ("trip", "c", "b", 4, 1),
        ("long", "c", "d", 50, 2),
        ("yardloop", "a", "a", 2, 1),
    ),
    (),
)

NO_TEXTS = (0, 1, 7, -1, None, True, False, 1.5, [], ["served"], ["yard", "a"], (), ("all 0",), ("a", (), ()), {},
            {"all": 0}, {"all 0"}, b"all 0", b"served", b"", object(), len, str, ValueError)
