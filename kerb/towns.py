"""Towns (yard, streets, bans): whether they fit, and what their sides are."""

from kerb.errors import Unfit, Unknown


def fits(town):
    return names_fit(town) and numbers_fit(town) and bans_fit(town)


def fitted(town):
    if not fits(town):
        raise Unfit("the town does not fit")
    return town


def sides_of(town):
    return list(courses_of(town))


def begin_of(town, side):
    return course_of(town, side)[0]


def end_of(town, side):
    return course_of(town, side)[1]


def length_of(town, side):
    return course_of(town, side)[2]


def course_of(town, side):
    return known_courses(town, [side])[side]


# The courses of the whole town, refused if one of the sides asked of is a stranger.
def known_courses(town, sides):
    courses = courses_of(town)
    for side in sides:
        if side not in courses:
            raise Unknown(f"{side!r} is no side of the town")
    return courses


# One dict, in the sides' order, gives each side its (begin, end, length),
# so that what is a side and where it lies is told in one place.
def courses_of(town):
    courses = {}
    for name, first, second, length, ways in town[1]:
        courses[f"{name}>"] = (first, second, length)
        if ways == 2:
            courses[f"{name}<"] = (second, first, length)
    return courses


def names_fit(town):
    return stand_once([street[0] for street in town[1]])


def numbers_fit(town):
    return all([street_fits(street) for street in town[1]])


def street_fits(street):
    length = street[3]
    ways = street[4]
    return is_whole(length) and length >= 1 and is_whole(ways) and ways in (1, 2)


def bans_fit(town):
    courses = courses_of(town)
    return stand_once(town[2]) and all([ban_fits(town[0], courses, ban) for ban in town[2]])


def ban_fits(yard, courses, ban):
    if ban[0] not in courses or ban[1] not in courses:
        return False
    corner = courses[ban[0]][1]
    return corner == courses[ban[1]][0] and corner != yard


def stand_once(things):
    return len(set(things)) == len(things)


# Python takes True for 1; here a truth is no whole number.
def is_whole(value):
    return isinstance(value, int) and not isinstance(value, bool)
