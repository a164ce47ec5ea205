"""The first words of deeds, ENDs and nodes, and of what kinds the parts behind them are."""

from seaplace.words import GIVENS, REGIONS, is_among, is_name, is_whole, is_word, number_of

DEED_WORDS = ("out", "store", "check")
END_WORDS = ("goto", "if", "return")
NODE_WORDS = (
    "word", "given", "phi", "add", "sub", "mul", "and", "xor", "less", "same", "pick", "div", "rest", "load",
)

PARTS = {
    "block": ("name",),
    "out": ("node",),
    "store": ("region", "node", "node"),
    "check": ("node",),
    "goto": ("name",),
    "if": ("node", "name", "name"),
    "return": ("node",),
    "word": ("word",),
    "given": ("given",),
    "phi": ("name", "nodes"),
    "add": ("node", "node"),
    "sub": ("node", "node"),
    "mul": ("node", "node"),
    "and": ("node", "node"),
    "xor": ("node", "node"),
    "less": ("node", "node"),
    "same": ("node", "node"),
    "pick": ("node", "node", "node"),
    "div": ("node", "node"),
    "rest": ("node", "node"),
    "load": ("region", "node", "version"),
}


def is_tuple_of(thing, least, most):
    """Whether a thing is a tuple of from least to most things."""
    return isinstance(thing, tuple) and least <= len(thing) <= most


def is_part(kind, part, many):
    """Whether a part is of a kind, where there are so many nodes."""
    if kind == "node":
        return is_among(part, 0, many - 1)
    if kind == "name":
        return is_name(part)
    if kind == "region":
        return is_among(part, 0, REGIONS - 1)
    if kind == "given":
        return is_among(part, 0, GIVENS - 1)
    if kind == "word":
        return is_word(part)
    if kind == "nodes":
        return isinstance(part, tuple) and all([is_among(node, 0, many - 1) for node in part])
    return is_tuple_of(part, 2, 2) and is_name(part[0]) and is_whole(part[1])


def has_parts(thing, firsts, many):
    """Whether a thing is a tuple of one of these first words and its parts, where there are so many nodes."""
    if not isinstance(thing, tuple) or not thing or not isinstance(thing[0], str) or thing[0] not in firsts:
        return False
    kinds = PARTS[thing[0]]
    if len(thing) != len(kinds) + 1:
        return False
    return all([is_part(kind, part, many) for kind, part in zip(kinds, thing[1:])])


def asked_by(thing):
    """The nodes that a deed, an END or a node names, in their order."""
    found = []
    for kind, part in zip(PARTS[thing[0]], thing[1:]):
        if kind == "node":
            found.append(part)
        elif kind == "nodes":
            found.extend(part)
    return tuple(found)


def words_for(thing):
    """The words that tell a deed, an END or a node in a text."""
    words = []
    for part in thing:
        if isinstance(part, tuple):
            words.extend([str(one) for one in part])
        else:
            words.append(str(part))
    return words


def forms_for(words):
    """The forms, "name" or "number", that words behind such a first one must have."""
    forms = []
    for kind in PARTS[words[0]]:
        if kind == "name":
            forms.append("name")
        elif kind == "version":
            forms.extend(["name", "number"])
        elif kind == "nodes":
            # A text may tell any number of them: how many are due only the blocks tell.
            forms.extend(["number"] * (len(words) - 1 - len(forms)))
        else:
            forms.append("number")
    return forms


def has_form(word, form):
    """Whether a word is a name, or a number, as its form asks."""
    if form == "name":
        return is_name(word)
    return number_of(word) is not None


def misplaced(words, firsts):
    """The place, from 1, of the first word that can't stand by its form behind one of these first words, or None."""
    if not words or words[0] not in firsts:
        return 1
    forms = forms_for(words)
    for place, form in enumerate(forms, 1):
        if place >= len(words) or not has_form(words[place], form):
            return place + 1
    if len(words) > len(forms) + 1:
        return len(forms) + 2
    return None


def thing_of(words):
    """The deed, END or node that words tell, none of them misplaced."""
    parts = []
    at = 1
    for kind in PARTS[words[0]]:
        if kind == "name":
            parts.append(words[at])
        elif kind == "version":
            parts.append((words[at], number_of(words[at + 1])))
            at += 1
        elif kind == "nodes":
            parts.append(tuple([number_of(word) for word in words[at:]]))
        else:
            parts.append(number_of(words[at]))
        at += 1
    return (words[0], *parts)
