"""Of what parts the rows of code are, and which of these can stand."""

from seaplace.parts import is_number, is_tuple_of
from seaplace.words import MOST, is_name

# What stands behind the first word of a row.
CODE_FORMS = {
    "enter": ("name",),
    "word": ("register", "word"),
    "given": ("register", "given"),
    "add": ("register", "register", "register"),
    "sub": ("register", "register", "register"),
    "mul": ("register", "register", "register"),
    "and": ("register", "register", "register"),
    "xor": ("register", "register", "register"),
    "less": ("register", "register", "register"),
    "same": ("register", "register", "register"),
    "div": ("register", "register", "register"),
    "rest": ("register", "register", "register"),
    "pick": ("register", "register", "register", "register"),
    "load": ("register", "region", "register"),
    "store": ("region", "register", "register"),
    "out": ("register",),
    "check": ("register", "name", "deed"),
    "move": ("register", "register"),
    "goto": ("row",),
    "if": ("register", "row", "row"),
    "return": ("register",),
}

# Below what a number of each kind is.
ABOVE = {"register": 64, "word": 65536, "given": 4, "region": 2, "deed": 5, "row": 2000}

# From which place on jumps tell rows.
JUMPS = {"goto": 1, "if": 2}


def is_part(thing, kind):
    """Whether a thing is a part of this kind."""
    if kind == "name":
        return is_name(thing)
    return is_number(thing, ABOVE[kind])


def is_code_row(row):
    """Whether a thing is a row of code, wherever it may jump."""
    if not isinstance(row, tuple) or not row or not isinstance(row[0], str) or row[0] not in CODE_FORMS:
        return False
    forms = CODE_FORMS[row[0]]
    return len(row) == len(forms) + 1 and all([is_part(part, kind) for part, kind in zip(row[1:], forms)])


def jumps_of(row):
    """The rows, a tuple, to which a row may jump."""
    if row[0] not in JUMPS:
        return ()
    return row[JUMPS[row[0]]:]


def can_jump(code, number, to):
    """Whether the row of a number may jump to another one: there is one, and one that isn't behind is an enter row."""
    return to < len(code) and (to > number or code[to][0] == "enter")


def bad_row(code):
    """The number of the first of these things that is no row of code there, or None."""
    for number, row in enumerate(code):
        # A row that isn't behind was looked at ahead, or is this one.
        if not is_code_row(row) or not all([can_jump(code, number, to) for to in jumps_of(row)]):
            return number
    return None


def bad_jump(code):
    """The numbers of the first of these rows that can't jump where it does, and of that part of it; None of none."""
    for number, row in enumerate(code):
        for place, to in enumerate(jumps_of(row), JUMPS.get(row[0], 0)):
            if not can_jump(code, number, to):
                return (number, place)
    return None


def fault_of_code(thing):
    """A list of the row by which a thing is no code, None being one; None of code."""
    if not is_tuple_of(thing, 0, MOST):
        return [None]
    number = bad_row(thing)
    if number is None:
        return None
    return [number]
