"""What the operations make of words."""

from seaplace.words import WORD


def reckoned(kind, words):
    """The word that an operation makes of its inputs' words; nobody asks for a quotient by 0."""
    if kind == "pick":
        if words[0] != 0:
            return words[1]
        return words[2]
    one, other = words
    if kind == "add":
        return (one + other) % WORD
    if kind == "sub":
        return (one - other) % WORD
    if kind == "mul":
        return (one * other) % WORD
    if kind == "and":
        return one & other
    if kind == "xor":
        return one ^ other
    if kind == "less":
        return int(one < other)
    if kind == "same":
        return int(one == other)
    if kind == "div":
        return one // other
    return one % other
