"""Whole numbers, words, names, and the words of a row."""

WORD = 65536
REGIONS = 2
CELLS = 8
GIVENS = 4
STEPS = 200
HOLD = 1
MOST = 2000
MOST_BLOCKS = 12
MOST_NODES = 40
MOST_DEEDS = 5

MOST_LETTERS = 8
MOST_FIGURES = 5


def is_whole(thing):
    """Whether a thing is a whole number; True and False are none."""
    return isinstance(thing, int) and not isinstance(thing, bool)


def is_among(thing, least, most):
    """Whether a thing is a whole number from least to most."""
    if type(thing) is int and type(least) is int and type(most) is int:
        return least <= thing <= most
    return is_whole(thing) and is_whole(least) and is_whole(most) and least <= thing <= most


def is_word(thing, *, most=WORD - 1):
    """Whether a thing is a whole number from 0 to most."""
    return is_among(thing, 0, most)


def is_name(thing):
    """Whether a thing is one to eight small letters."""
    if not isinstance(thing, str) or len(thing) > MOST_LETTERS:
        return False
    # Of no sign at all none is a letter.
    return thing.isascii() and thing.isalpha() and thing.islower()


def number_of(word):
    """The number of one to five figures without a 0 ahead, or None."""
    if not isinstance(word, str) or len(word) > MOST_FIGURES or not word.isascii() or not word.isdigit():
        return None
    if word[0] == "0" and len(word) > 1:
        return None
    return int(word)


def words_of(row):
    """The words of a row between single blanks, a list, or None where blanks stand elsewhere."""
    if not isinstance(row, str):
        return None
    words = row.split(" ")
    if "" in words:
        return None
    return words
