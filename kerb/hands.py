"""A round parted among hands: a stretch of it for each, with a way out to it and a way home."""

from kerb.reach import known_round, length_all
from kerb.towns import courses_of
from kerb.ways import way_home, way_out


def parted(town, sides, many):
    known_round(town, sides)
    return [with_ways(town, stretch) for stretch in stretches_of(town, sides, many)]


# The round's length falls into as many shares as there are hands, and a side is the hand's in whose share it ends.
# So of each stretch only the first side reaches out of the share, and what a hand goes is no more than
# the share, the way out and that side, and the way home.
def stretches_of(town, sides, many):
    courses = courses_of(town)
    whole = length_all(town, sides)
    stretches = [[] for hand in range(many)]
    gone = 0
    for side in sides:
        gone += courses[side][2]
        # What ends just where a share ends belongs to that share, not to the next one.
        stretches[(gone * many - 1) // whole].append(side)
    return stretches


def with_ways(town, stretch):
    if len(stretch) == 0:
        return ([], [], [])
    return (way_out(town, stretch[0]), stretch, way_home(town, stretch[-1]))
