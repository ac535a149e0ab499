"""Names, numbers and sides; the words of a row and the rows of a text."""

from kerb.errors import NoText

# Written out, since isalpha, islower and isdigit take signs beyond ASCII, too.
LETTERS = "abcdefghijklmnopqrstuvwxyz"
FIGURES = "0123456789"
MOST_LETTERS = 8
MOST_FIGURES = 60


def is_name(word):
    return 1 <= len(word) <= MOST_LETTERS and is_made_of(word, LETTERS)


def is_number(word):
    return 1 <= len(word) <= MOST_FIGURES and word[0] != "0" and is_made_of(word, FIGURES)


def is_side(word):
    return word[-1:] in (">", "<") and is_name(word[:-1])


def words_of(row):
    # Python's split without a sign would part at tabs and line feeds, too, and pass over empty words.
    words = row.split(" ")
    if "" in words:
        raise NoText(f"a word without signs in the row {row!r}")
    return words


def rows_of(text):
    # Python's split would tell one row without signs of the text without signs.
    if text == "":
        return []
    return text.split("\n")


def is_made_of(word, signs):
    return all([sign in signs for sign in word])
