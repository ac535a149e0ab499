"""Days on which streets are shut: the town without them, and a round led on there."""

from kerb.errors import Unknown
from kerb.reach import known_round, served
from kerb.ways import joined


def without(town, names):
    known_streets(town, names)
    streets = [street for street in town[1] if street[0] not in names]
    bans = [ban for ban in town[2] if name_in(ban[0]) not in names and name_in(ban[1]) not in names]
    return (town[0], tuple(streets), tuple(bans))


def led_on(town, sides, names):
    left = without(town, names)
    known_round(town, sides)
    served_there = served(left)
    return joined(left, [side for side in sides if side in served_there])


def known_streets(town, names):
    streets = [street[0] for street in town[1]]
    for name in names:
        if name not in streets:
            raise Unknown(f"{name!r} is no street of the town")


# A side is its street's name and one sign behind it.
def name_in(side):
    return side[:-1]
