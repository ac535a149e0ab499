"""A desk, which keeps a town and its shut streets, is told rows and answers texts."""

from kerb.days import known_streets, without
from kerb.errors import NoText, NoTown
from kerb.hands import parted
from kerb.pairing import bound
from kerb.reach import cut, length_all, served
from kerb.reader import read
from kerb.rounds import round_of
from kerb.tellings import tell
from kerb.words import is_name, is_number, is_side

TOWN = "town "
ALONE = ("served", "bound", "round", "parts", "long", "tell")


# Kept are the town as it was told, the names of its shut streets, the town without them,
# and, once something of it was asked, that town's round with its parts.
class Desk:
    def __init__(self):
        self.town = None
        self.shut_names = []
        self.left = None
        self.found = None

    def say(self, row):
        if not is_row(row):
            raise NoText("the row is none that a desk answers")
        if row.startswith(TOWN):
            return self.take(read(row[len(TOWN):].replace(";", "\n")), [])
        if self.town is None:
            raise NoTown("no town was told")
        words = row.split(" ")
        if len(words) == 1:
            return self.answer(words[0])
        return self.do(words[0], words[1])

    # Whatever is refused is refused ahead of the first change.
    def take(self, town, names):
        left = without(town, names)
        self.town = town
        self.shut_names = names
        self.left = left
        self.found = None
        return "ok"

    def do(self, deed, word):
        if deed == "cut":
            return cut_told(cut(self.left, word))
        if deed == "hands":
            return self.hands_told(int(word))
        return self.take(self.town, self.names_behind(deed, word))

    # Opened or shut, a stranger is refused, and what is so already stays so.
    def names_behind(self, deed, name):
        known_streets(self.town, [name])
        others = [each for each in self.shut_names if each != name]
        return others + [name] if deed == "shut" else others

    def answer(self, word):
        if word == "served":
            return listed(served(self.left))
        if word == "bound":
            return str(bound(self.left))
        if word == "round":
            return listed(self.round_and_parts()[0])
        if word == "parts":
            return str(len(self.round_and_parts()[1]))
        if word == "long":
            return str(length_all(self.left, self.round_and_parts()[0]))
        return tell(self.left, self.round_and_parts()[0]).replace("\n", ";")

    def hands_told(self, many):
        hands = parted(self.left, self.round_and_parts()[0], many)
        return " ".join([str(length_all(self.left, out + stretch + home)) for out, stretch, home in hands])

    # Found once and kept, since all answers of a round are to be of one and the same.
    def round_and_parts(self):
        if self.found is None:
            self.found = round_of(self.left)
        return self.found


def is_row(row):
    if not isinstance(row, str) or "\n" in row:
        return False
    words = row.split(" ")
    if len(words) == 2 and is_asked_of(words[0], words[1]):
        return True
    return row in ALONE or row.startswith(TOWN)


def is_asked_of(deed, word):
    if deed in ("shut", "open"):
        return is_name(word)
    if deed == "cut":
        return is_side(word)
    return deed == "hands" and len(word) == 1 and is_number(word)


def cut_told(told):
    return "-" if told is None else " ".join([told[0], listed(told[1])])


def listed(sides):
    return " ".join(sides) if len(sides) > 0 else "-"
