"""Tells a round as text, and reads it of its text."""

from kerb.errors import NoText
from kerb.reach import is_round, known_round, length_all
from kerb.towns import courses_of
from kerb.words import rows_of


def tell(town, sides):
    known_round(town, sides)
    courses = courses_of(town)
    rows = []
    done = {}
    for side in sides:
        rows.append(side_row("by" if side in done else "do", side, courses[side]))
        done[side] = True
    rows.append(" ".join(["all", str(length_all(town, sides))]))
    return "\n".join(rows)


# The sides that the rows name make the round; told again it must be the very text,
# so nothing else that stands in the rows has to be looked at by itself.
def read_round(town, text):
    if not isinstance(text, str):
        raise NoText("a round is read of a text alone")
    sides = [second_word(row) for row in rows_of(text)[:-1]]
    if not is_round(town, sides) or tell(town, sides) != text:
        raise NoText("the text tells no round of the town")
    return sides


def side_row(word, side, course):
    return " ".join([word, side, course[0], course[1], str(course[2])])


# What stands between the first two blanks, whatever the row is; what is no side is refused as no part of a round.
def second_word(row):
    return row.partition(" ")[2].partition(" ")[0]
