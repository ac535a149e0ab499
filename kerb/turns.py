"""Turns: from a side into each one that begins where it ends, but where that is banned."""

from kerb.towns import known_courses, sides_of


def turns_from(town, side):
    courses = known_courses(town, [side])
    return [other for other in courses if is_turn(town, courses, side, other)]


def turns_into(town, side):
    courses = known_courses(town, [side])
    return [one for one in courses if is_turn(town, courses, one, side)]


def may_turn(town, one, other):
    return is_turn(town, known_courses(town, [one, other]), one, other)


# Whoever asks for many turns takes the courses once and asks with them.
def is_turn(town, courses, one, other):
    return courses[one][1] == courses[other][0] and (one, other) not in town[2]


def all_turns_from(town):
    turns = {}
    for side in sides_of(town):
        turns[side] = turns_from(town, side)
    return turns


def all_turns_into(town):
    turns = {}
    for side in sides_of(town):
        turns[side] = turns_into(town, side)
    return turns
