"""Walks, rounds and their lengths; which sides a round can come to, and what shows of the others that none can."""

from kerb.errors import NoRound
from kerb.towns import courses_of, known_courses
from kerb.turns import all_turns_from, all_turns_into, is_turn


def is_walk(town, sides):
    courses = courses_of(town)
    if not all([side in courses for side in sides]):
        return False
    return all([is_turn(town, courses, one, other) for one, other in zip(sides, sides[1:])])


def is_round(town, sides):
    if not is_walk(town, sides):
        return False
    if len(sides) == 0:
        return True
    courses = courses_of(town)
    return courses[sides[0]][0] == town[0] and courses[sides[-1]][1] == town[0]


# Whoever asks for a round is refused here if it is none.
def known_round(town, sides):
    if not is_round(town, sides):
        raise NoRound("the sides are no round of the town")


def length_all(town, sides):
    courses = known_courses(town, sides)
    return sum([courses[side][2] for side in sides])


def served(town):
    homeward = all_homeward(town)
    return [side for side in all_come_to(town) if side in homeward]


def cut(town, side):
    # A stranger is in none of the lists below, so it has to be refused ahead of them.
    known_courses(town, [side])
    come_to = all_come_to(town)
    if side not in come_to:
        return ("out", come_to)
    if side in all_homeward(town):
        return None
    return ("home", all_led_to(all_turns_from(town), [side]))


def all_come_to(town):
    courses = courses_of(town)
    return all_led_to(all_turns_from(town), [side for side in courses if courses[side][0] == town[0]])


def all_homeward(town):
    courses = courses_of(town)
    return all_led_to(all_turns_into(town), [side for side in courses if courses[side][1] == town[0]])


# The starts and all to which turns lead from them, in the order in which turns has the sides.
def all_led_to(turns, starts):
    found = {}
    waiting = list(starts)
    while len(waiting) > 0:
        side = waiting.pop()
        if side not in found:
            found[side] = True
            waiting.extend(turns[side])
    return [side for side in turns if side in found]
