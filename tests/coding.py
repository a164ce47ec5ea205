"""Code by a seed, good rows of each kind, and a second reading of what a run of code is."""

import random

from running import by_table

PAIRED = ("add", "sub", "mul", "and", "xor", "less", "same", "div", "rest")

# A good row of each kind, where row 0 enters a block and there are at least 9 rows, and what can stand in each place.
ROWS = (
    (("enter", "top"), ("name",)),
    (("word", 3, 65535), ("register", 65536)),
    (("given", 0, 3), ("register", 4)),
    *[((kind, 1, 2, 63), ("register",) * 3) for kind in PAIRED],
    (("pick", 1, 2, 3, 4), ("register",) * 4),
    (("load", 1, 1, 3), ("register", 2, "register")),
    (("store", 1, 2, 3), (2, "register", "register")),
    (("out", 5), ("register",)),
    (("check", 5, "top", 4), ("register", "name", 5)),
    (("move", 5, 6), ("register", "register")),
    (("goto", 8), ("row",)),
    (("if", 5, 8, 0), ("register", "row", "row")),
    (("return", 5), ("register",)),
)


def below(kind):
    """Below what a part of a row is that is a number."""
    return {"register": 64, "row": 2000}.get(kind, kind)


def some_code(seed):
    """Good code by a seed, of few registers, so that much comes to something."""
    chance = random.Random(seed)
    many = chance.choice((0, 1, 2, 5, 12, 30))
    enters = [at for at in range(many) if at == 0 or chance.random() < 0.25]
    rows = []
    for at in range(many):
        if at in enters:
            rows.append(("enter", chance.choice(("a", "b", "abcdefgh"))))
            continue
        row, parts = chance.choice(ROWS[1:])
        ways = [to for to in range(at + 1, many)] + [to for to in enters if to < at]
        made = [row[0]]
        for kind in parts:
            if kind == "name":
                made.append(chance.choice(("a", "top")))
            elif kind == "row":
                made.append(chance.choice(ways))
            elif kind == "register":
                made.append(chance.randrange(4))
            else:
                made.append(chance.choice((0, 1, kind - 1, chance.randrange(kind))) % kind)
        rows.append(tuple(made))
    return tuple(rows)


def gone_through(code, given, most):
    """What a run of code comes to, row by row."""
    words = dict.fromkeys(range(64), 0)
    cells = {}
    outs = []
    at, entered = 0, 0
    while at < len(code):
        kind, *parts = code[at]
        at += 1
        if kind == "enter":
            if entered == most:
                return (tuple(outs), ("stopped",))
            entered += 1
        elif kind == "word":
            words[parts[0]] = parts[1]
        elif kind == "given":
            words[parts[0]] = given[parts[1]] if parts[1] < len(given) else 0
        elif kind == "load":
            words[parts[0]] = cells.get((parts[1], words[parts[2]] % 8), 0)
        elif kind == "store":
            cells[parts[0], words[parts[1]] % 8] = words[parts[2]]
        elif kind == "out":
            outs.append(words[parts[0]])
        elif kind == "check":
            if words[parts[0]] == 0:
                return (tuple(outs), ("fault", parts[1], parts[2]))
        elif kind == "move":
            words[parts[0]] = words[parts[1]]
        elif kind == "goto":
            at = parts[0]
        elif kind == "if":
            at = parts[1] if words[parts[0]] else parts[2]
        elif kind == "return":
            return (tuple(outs), ("returned", words[parts[0]]))
        elif kind in ("div", "rest") and words[parts[2]] == 0:
            return (tuple(outs), ("divided", at - 1))
        else:
            words[parts[0]] = by_table(kind, [words[one] for one in parts[1:]])
    return (tuple(outs), ("ended",))
