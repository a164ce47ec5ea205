"""The first words of deeds, ENDs, nodes and pins, and of what kinds the parts behind them are."""

from seaplace.words import is_among, is_name, number_of

END_WORDS = ("goto", "if", "return")
INSIDE_WORDS = ("out", "store", "check", "goto", "if", "return")
NODE_WORDS = (
    "word", "given", "phi", "add", "sub", "mul", "and", "xor", "less", "same", "pick", "div", "rest", "load",
)

# The nodes of two inputs and nothing else.
PAIRS = {
    "add": True, "sub": True, "mul": True, "and": True, "xor": True, "less": True, "same": True, "div": True,
    "rest": True,
}

# What the words behind a first one are in a text; behind a phi's block come numbers, as many as there are.
FORMS = {
    "block": ("name",),
    "out": ("number",),
    "store": ("number", "number", "number"),
    "check": ("number",),
    "goto": ("name",),
    "if": ("number", "name", "name"),
    "return": ("number",),
    "word": ("number",),
    "given": ("number",),
    "phi": ("name",),
    "add": ("number", "number"),
    "sub": ("number", "number"),
    "mul": ("number", "number"),
    "and": ("number", "number"),
    "xor": ("number", "number"),
    "less": ("number", "number"),
    "same": ("number", "number"),
    "pick": ("number", "number", "number"),
    "div": ("number", "number"),
    "rest": ("number", "number"),
    "load": ("number", "number", "name", "number"),
    "pin": ("number", "name", "number"),
}

# From which place on the parts stand in a tuple of their own, the last part of a node.
INNER = {"phi": 2, "load": 3}

# From where to where nodes stand in a deed, an END or a node; a phi's stand in a tuple of their own.
ASKED = {
    "out": (1, 2), "store": (2, 4), "check": (1, 2), "goto": (1, 1), "if": (1, 2), "return": (1, 2), "word": (1, 1),
    "given": (1, 1), "phi": None, "add": (1, 3), "sub": (1, 3), "mul": (1, 3), "and": (1, 3), "xor": (1, 3),
    "less": (1, 3), "same": (1, 3), "pick": (1, 4), "div": (1, 3), "rest": (1, 3), "load": (2, 3),
}


def is_tuple_of(thing, least, most):
    """Whether a thing is a tuple of from least to most things."""
    return isinstance(thing, tuple) and least <= len(thing) <= most


def is_number(thing, many):
    """Whether a thing is a whole number below many."""
    if type(thing) is int:
        return 0 <= thing < many
    return is_among(thing, 0, many - 1)


def are_numbers(things, many):
    """Whether all of these things are whole numbers below many."""
    for thing in things:
        if not is_number(thing, many):
            return False
    return True


def asked_by(thing):
    """The nodes that a deed, an END or a node names, in their order."""
    places = ASKED[thing[0]]
    if places is None:
        return thing[2]
    return thing[places[0]:places[1]]


def renamed(thing, names):
    """A deed, an END or a node in which nodes are called by other numbers, as a dict or list tells."""
    places = ASKED[thing[0]]
    if places is None:
        return (thing[0], thing[1], tuple([names[node] for node in thing[2]]))
    first, last = places
    return (*thing[:first], *[names[node] for node in thing[first:last]], *thing[last:])


def text_for(thing):
    """The words that tell a deed, an END or a node, with blanks between."""
    if thing[0] in INNER:
        thing = thing[:-1] + thing[-1]
    return " ".join(map(str, thing))


def told_by(words, firsts):
    """What words tell behind one of these first words, and None; or None and the place of the first that can't stand.

    Places are counted from 1; it is the one behind the last where words lack.
    """
    if not words or words[0] not in firsts:
        return (None, 1)
    first = words[0]
    forms = FORMS[first]
    if first == "phi":
        forms = forms + ("number",) * (len(words) - 2)
    parts = [first]
    for word, form in zip(words[1:], forms):
        if form == "number":
            part = number_of(word)
        elif is_name(word):
            part = word
        else:
            part = None
        if part is None:
            return (None, len(parts) + 1)
        parts.append(part)
    if len(words) != len(forms) + 1:
        return (None, len(parts) + 1)
    if first in INNER:
        return ((*parts[:INNER[first]], tuple(parts[INNER[first]:])), None)
    return (tuple(parts), None)
