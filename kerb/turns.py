"""Turns: from a side into each one that begins where it ends, but where that is banned."""

from kerb.towns import courses_of, known_courses


def turns_from(town, side):
    courses = known_courses(town, [side])
    return [other for other in courses if is_turn(town, courses, side, other)]


def turns_into(town, side):
    courses = known_courses(town, [side])
    return [one for one in courses if is_turn(town, courses, one, side)]


def may_turn(town, one, other):
    return is_turn(town, known_courses(town, [one, other]), one, other)


# Whoever asks for many turns takes the courses once and asks with them.
def is_turn(town, courses, one, other):
    return courses[one][1] == courses[other][0] and (one, other) not in town[2]


def all_turns_from(town):
    courses = courses_of(town)
    turns = {}
    for side in courses:
        turns[side] = []
    for one, other in all_turns(town, courses):
        turns[one].append(other)
    return turns


def all_turns_into(town):
    courses = courses_of(town)
    turns = {}
    for side in courses:
        turns[side] = []
    for one, other in all_turns(town, courses):
        turns[other].append(one)
    return turns


# Ways ask for all turns again and again, so for each side only those are looked at that begin in its last corner.
def all_turns(town, courses):
    begun = {}
    for side in courses:
        begun.setdefault(courses[side][0], []).append(side)
    told = []
    for one in courses:
        others = begun.get(courses[one][1], [])
        told.extend([(one, other) for other in others if is_turn(town, courses, one, other)])
    return told
