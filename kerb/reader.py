"""Reads a town of its text."""

from kerb.errors import NoText
from kerb.towns import fitted
from kerb.words import is_name, is_number, is_side, rows_of, words_of

WAYS = {"lane": 1, "street": 2}


def read(text):
    if not isinstance(text, str):
        raise NoText("a town is read of a text alone")
    return fitted(town_of([words_of(row) for row in rows_of(text)]))


# How many streets' rows there are tells where the bans' rows begin; a row out of its place
# is then refused as none of the kind that belongs there.
def town_of(rows):
    behind = 1 + len([words for words in rows if words[0] in WAYS])
    streets = [street_of(words) for words in rows[1:behind]]
    bans = [ban_of(words) for words in rows[behind:]]
    return (yard_of(rows[:1]), tuple(streets), tuple(bans))


def yard_of(rows):
    if rows == [] or not is_yard_row(rows[0]):
        raise NoText("the first row is no yard's")
    return rows[0][1]


def street_of(words):
    if not is_street_row(words):
        raise NoText("a row is no street's where a street's is to stand")
    return (words[1], words[2], words[3], int(words[4]), WAYS[words[0]])


def ban_of(words):
    if not is_ban_row(words):
        raise NoText("a row is no ban's where a ban's is to stand")
    return (words[1], words[2])


def is_yard_row(words):
    return len(words) == 2 and words[0] == "yard" and is_name(words[1])


def is_street_row(words):
    if len(words) != 5 or words[0] not in WAYS:
        return False
    return all([is_name(word) for word in words[1:4]]) and is_number(words[4])


def is_ban_row(words):
    return len(words) == 3 and words[0] == "ban" and is_side(words[1]) and is_side(words[2])
