"""Lines that are said to a desk: which deed they tell, or what is asked."""

from seaplace.parts import END_WORDS, NODE_WORDS, told_by
from seaplace.words import GIVENS, is_name, number_of, words_of

# What stands behind the name of a deed.
DEED_FORMS = {
    "put_node": ("number", "node"),
    "add_node": ("node",),
    "add_deed": ("name", "at", "deed"),
    "drop_deed": ("name", "number"),
    "set_end": ("name", "end"),
    "split_edge": ("name", "name", "name"),
    "set_count": ("name", "number"),
    "set_hold": ("number",),
    "pin": ("number", "slot"),
    "unpin": ("number",),
    "merge": (),
    "fold": (),
    "tidy": (),
}

# Likewise what else is asked; a run's words are as many as one likes.
ASK_FORMS = {
    "undo": (), "redo": (), "copy": ("name",), "use": ("name",), "text": (), "cost": (), "registers": (), "many": (),
    "ranges": (), "placement": (), "early": (), "run": ("words",), "same": ("name",), "units": (),
}

# How many words a thing takes; any other one takes all that are left.
SIZES = {"number": 1, "name": 1, "at": 1, "slot": 2}
DEED_WORDS = ("out", "store", "check")


def told_thing(words, firsts):
    """A list of what words tell behind one of these first words, an empty one where they can't."""
    thing, place = told_by(words, firsts)
    if place is not None:
        return []
    return [thing]


def told_numbers(words):
    """A list of the numbers, a tuple, that words tell, an empty one where they can't, or are too many."""
    numbers = [number_of(word) for word in words]
    if len(numbers) > GIVENS or None in numbers:
        return []
    return [tuple(numbers)]


def told_word(form, word):
    """A list of what one word tells, an empty one where it can't."""
    number = number_of(word)
    if form == "name" and is_name(word):
        return [word]
    if form == "at" and word == "-":
        return [None]
    if form != "name" and number is not None:
        return [number]
    return []


def told_part(form, words):
    """A list of the thing of a form that words tell, an empty one where they can't."""
    if form == "node":
        return told_thing(words, NODE_WORDS)
    if form == "deed":
        return told_thing(words, DEED_WORDS)
    if form == "end":
        return told_thing(words, END_WORDS)
    if form == "words":
        return told_numbers(words)
    if len(words) != SIZES[form]:
        return []
    if form == "slot":
        found = told_word("name", words[0]) + told_word("number", words[1])
        if len(found) < 2:
            return []
        return [tuple(found)]
    return told_word(form, words[0])


def told_parts(forms, words):
    """A list of the things of these forms that words tell one behind the other, or None where they can't."""
    found = []
    left = words
    for form in forms:
        many = SIZES.get(form, len(left))
        part = told_part(form, left[:many])
        if not part:
            return None
        found.append(part[0])
        left = left[many:]
    if left:
        return None
    return found


def told_deed(words):
    """The deed that words tell, a tuple as deeds as one are told; None where they tell none."""
    if words[0] not in DEED_FORMS:
        return None
    found = told_parts(DEED_FORMS[words[0]], words[1:])
    if found is None:
        return None
    if words[0] == "add_deed":
        name, at, deed = found
        return (words[0], name, deed, at)
    return (words[0], *found)


def told_deeds(line):
    """The deeds, a tuple, that a line tells, one or several; None where it tells anything else."""
    found = [told_deed(words_of(row)) for row in line.split(" ; ")]
    if None in found:
        return None
    return tuple(found)


def told_ask(words):
    """What is asked beside deeds, a tuple of a word and what is told behind it; None where nothing is."""
    if words[0] not in ASK_FORMS:
        return None
    found = told_parts(ASK_FORMS[words[0]], words[1:])
    if found is None:
        return None
    return (words[0], *found)
