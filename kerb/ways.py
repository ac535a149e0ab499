"""Least ways and their prices: between two sides, out from the yard, and home to it."""

from kerb.towns import courses_of, known_courses
from kerb.turns import all_turns_from, all_turns_into


def price_between(town, one, other):
    known_courses(town, [one, other])
    return price_in(least_behind(town, one), other)


def prices_from(town, side):
    courses = known_courses(town, [side])
    ways = least_behind(town, side)
    return [price_in(ways, other) for other in courses]


def price_out(town, side):
    known_courses(town, [side])
    return price_in(least_out(town), side)


def price_home(town, side):
    known_courses(town, [side])
    return price_in(least_home(town), side)


def way_between(town, one, other):
    known_courses(town, [one, other])
    return way_ahead(least_behind(town, one), other)


def way_out(town, side):
    known_courses(town, [side])
    return way_ahead(least_out(town), side)


def way_home(town, side):
    known_courses(town, [side])
    return way_back(least_home(town), side)


# Of served sides a round: between two of them there is always a way, home and out again if no other,
# since no turn is banned in the yard's corner. A round may name a side again and again, so what lies behind it
# is searched once.
def joined(town, sides):
    if len(sides) == 0:
        return []
    told = way_out(town, sides[0])
    behind = {}
    for one, other in zip(sides, sides[1:]):
        if one not in behind:
            behind[one] = least_behind(town, one)
        told = told + [one] + way_ahead(behind[one], other)
    return told + [sides[-1]] + way_home(town, sides[-1])


def least_behind(town, one):
    turns = all_turns_from(town)
    return least_led_to(town, turns, turns[one])


def least_out(town):
    courses = courses_of(town)
    return least_led_to(town, all_turns_from(town), [side for side in courses if courses[side][0] == town[0]])


# Led to against the turns' sense, so that one search from the yard finds the ways home from all sides.
def least_home(town):
    courses = courses_of(town)
    return least_led_to(town, all_turns_into(town), [side for side in courses if courses[side][1] == town[0]])


# Each side that turns lead to from the starts, with its price, which does not count the side itself,
# and the side that is next on its way back to them, None for a start.
# The side of least price is settled first: lengths are 1 or more, so no way to it is found later that is shorter.
def least_led_to(town, turns, starts):
    courses = courses_of(town)
    settled = {}
    waiting = {}
    for side in starts:
        waiting[side] = (0, None)
    while len(waiting) > 0:
        side = min(waiting, key=lambda each: waiting[each][0])
        settled[side] = waiting.pop(side)
        price = settled[side][0] + courses[side][2]
        for other in turns[side]:
            if other not in settled and (other not in waiting or price < waiting[other][0]):
                waiting[other] = (price, side)
    return settled


def price_in(ways, side):
    return ways[side][0] if side in ways else None


# From the side back to a start: a way home as it is, the other ways turned round.
def way_back(ways, side):
    if side not in ways:
        return None
    told = []
    here = ways[side][1]
    while here is not None:
        told.append(here)
        here = ways[here][1]
    return told


def way_ahead(ways, side):
    told = way_back(ways, side)
    return None if told is None else list(reversed(told))
