"""What several tests ask of: a town, what is none of its sides, towns by number, and turns by the document's words."""

import random

# A two-way street, a lane, two streets between the same corners, a loop both ways and a loop one way.
STREETS = (
    ("main", "a", "b", 5, 2),
    ("lane", "b", "c", 7, 1),
    ("back", "c", "b", 2, 2),
    ("ring", "c", "c", 3, 2),
    ("spin", "b", "b", 4, 1),
)
SIDES = ["main>", "main<", "lane>", "back>", "back<", "ring>", "ring<", "spin>"]
BEGINS = ["a", "b", "b", "c", "b", "c", "c", "b"]
ENDS = ["b", "a", "c", "b", "c", "c", "c", "b"]
LENGTHS = [5, 5, 7, 2, 2, 3, 3, 4]
EMPTY = ("a", (), ())

NO_SIDES = ("", ">", "<", "main", "lane", "lane<", "spin<", "other>", "other<", "Main>", "main>>", "main> ", " main>",
            "main>\n", "main\t>", ">main", "a", "b", "main=", "lane>lane>", "main>main<", "abcdefghi>")


# The corners where each side begins and ends, from the town's tuple alone.
def corners_of(town):
    corners = {}
    for name, first, second, length, ways in town[1]:
        corners[name + ">"] = (first, second)
        if ways == 2:
            corners[name + "<"] = (second, first)
    return corners


def is_allowed(town, one, other):
    corners = corners_of(town)
    return corners[one][1] == corners[other][0] and (one, other) not in town[2]


# One and the same town for a number, with bans of sides that meet off the yard's corner.
def numbered_town(number, most_streets=9, most_figures=1):
    chance = random.Random(number)
    corners = "abcdef"[:chance.randrange(1, 7)]
    streets = tuple(
        ("s" * chance.randrange(1, 7) + chr(ord("a") + k // 6) + chr(ord("a") + k % 6),
         chance.choice(corners), chance.choice(corners),
         chance.randrange(1, 10 ** chance.randrange(1, most_figures + 1)), chance.choice((1, 2)))
        for k in range(chance.randrange(0, most_streets + 1)))
    yard = chance.choice(corners)
    places = corners_of((yard, streets, ()))
    meeting = [(one, other) for one in places for other in places if places[one][1] == places[other][0] != yard]
    return (yard, streets, tuple(chance.sample(meeting, min(len(meeting), chance.randrange(0, 21)))))
