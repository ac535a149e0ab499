"""The least round along few served sides, with the prices of all states that show it."""

from kerb.errors import TooMany
from kerb.reach import served
from kerb.towns import length_of
from kerb.ways import joined, price_between, price_home, price_out

MOST = 7


def least(town):
    sides = served(town)
    if len(sides) > MOST:
        raise TooMany("more served sides than seven")
    steps = steps_of(town, sides)
    return (joined(town, order_of(sides, steps)), [(done, last, steps[(done, last)][0]) for done, last in steps])


# Each state with its price and the side that is done next on a least round, "" for none.
def steps_of(town, sides):
    gaps = gaps_of(town, sides)
    steps = {}
    for done in reversed(choices_of(sides)):
        for last in lasts_of(done):
            steps[(done, last)] = step_of(sides, gaps, steps, done, last)
    return steps


def step_of(sides, gaps, steps, done, last):
    if len(done) == len(sides):
        return (gaps[(last, "")], "")
    left = [side for side in sides if side not in done]
    return min([(gaps[(last, side)] + steps[(with_side(sides, done, side), side)][0], side) for side in left])


# What is gone from the end of one side to the end of another; "" stands for the yard.
def gaps_of(town, sides):
    gaps = {("", ""): 0}
    for side in sides:
        gaps[("", side)] = price_out(town, side) + length_of(town, side)
        gaps[(side, "")] = price_home(town, side)
        for one in sides:
            gaps[(one, side)] = price_between(town, one, side) + length_of(town, side)
    return gaps


# All tuples of some of the sides, in the sides' order; each stands ahead of those that have more besides its own.
def choices_of(sides):
    told = [()]
    for side in sides:
        told = told + [some + (side,) for some in told]
    return told


def lasts_of(done):
    return done if len(done) > 0 else ("",)


def with_side(sides, done, side):
    return tuple([each for each in sides if each == side or each in done])


# The sides in the order in which a least round does them.
def order_of(sides, steps):
    told = []
    done = ()
    last = ""
    while len(done) < len(sides):
        last = steps[(done, last)][1]
        done = with_side(sides, done, last)
        told.append(last)
    return told
