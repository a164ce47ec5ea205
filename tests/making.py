"""Graphs for tests: some by hand, many by a seed; and what holds of them, found by trying out."""

import random

NAMES = ("top", "a", "b", "c", "d", "e", "f", "g", "h", "i", "abcdefgh", "z")

# A loop around a branch, with stores, checks, loads and phis.
LOOPED = (
    (
        ("top", (("store", 0, 0, 1),), ("goto", "head")),
        ("head", (), ("if", 3, "left", "right")),
        ("left", (("check", 4), ("store", 0, 2, 4)), ("goto", "foot")),
        ("right", (("out", 6),), ("goto", "foot")),
        ("foot", (), ("if", 5, "head", "done")),
        ("done", (("out", 2), ("check", 3), ("store", 1, 2, 3), ("store", 1, 3, 2), ("out", 7)), ("return", 2)),
    ),
    (
        ("word", 0),
        ("given", 0),
        ("phi", "head", (0, 5)),
        ("less", 2, 1),
        ("load", 0, 2, ("head", 0)),
        ("add", 2, 8),
        ("div", 1, 3),
        ("pick", 3, 2, 1),
        ("word", 1),
        ("mul", 1, 1),
    ),
)

# A sound graph like that one: the word that is divided by is checked where its quotient is put out.
STEADY = (
    (
        ("top", (("store", 0, 0, 1),), ("goto", "head")),
        ("head", (), ("if", 3, "left", "right")),
        ("left", (("check", 4), ("store", 0, 2, 4)), ("goto", "foot")),
        ("right", (("out", 7),), ("goto", "foot")),
        ("foot", (), ("if", 5, "head", "done")),
        ("done", (("out", 2), ("check", 3), ("store", 1, 2, 3), ("out", 6), ("out", 2)), ("return", 2)),
    ),
    (
        ("word", 0),
        ("given", 0),
        ("phi", "head", (0, 5)),
        ("less", 2, 1),
        ("load", 0, 2, ("head", 0)),
        ("add", 2, 8),
        ("div", 1, 3),
        ("pick", 3, 2, 1),
        ("word", 1),
        ("mul", 1, 1),
    ),
)
STEADY_RANGES = (
    (0, ("top", 0), ("top", 0)),
    (3, ("head", 0), ("head", 0)),
    (4, ("head", 0), ("left", 0)),
    (5, ("head", 0), ("foot", 0)),
    (6, ("done", 2), ("done", 3)),
    (7, ("head", 0), ("right", 0)),
    (8, ("top", 0), ("foot", 0)),
)

# Twelve blocks in a row with five deeds each, and forty nodes each of which asks for the one ahead: almost all of them
# may stand almost everywhere.
TALL = (
    (
        *[(name, (("out", 0),) * 5, ("goto", after)) for name, after in zip(NAMES, NAMES[1:])],
        (NAMES[-1], (("out", 0),) * 5, ("return", 39)),
    ),
    (("word", 1), *[(("add", "mul", "div")[node % 3], node, 0) for node in range(39)]),
)

# Nothing floats.
BARE = (
    (
        ("top", (("out", 0),), ("if", 0, "side", "loop")),
        ("side", (), ("goto", "loop")),
        ("loop", (("check", 1),), ("if", 1, "loop", "last")),
        ("last", (), ("return", 1)),
    ),
    (("given", 0), ("phi", "loop", (0, 0, 1))),
)

# No node at all, and a block that is a loop by itself.
LEAST = ((("only", (), ("goto", "next")), ("next", (), ("goto", "next"))), ())


def diamond():
    """A branch that joins again."""
    return (
        (
            ("top", (), ("if", 0, "left", "right")),
            ("left", (), ("goto", "foot")),
            ("right", (), ("goto", "foot")),
            ("foot", (), ("return", 0)),
        ),
        (("given", 0),),
    )


def blocks_only(ways, entry="top"):
    """A graph of blocks without deeds by a dict of names and ways, with one given word that all branches ask."""
    blocks = []
    for name, on in ways.items():
        if len(on) == 2:
            end = ("if", 0, on[0], on[1])
        elif len(on) == 1:
            end = ("goto", on[0])
        else:
            end = ("return", 0)
        blocks.append((name, (), end))
    assert blocks[0][0] == entry
    return (tuple(blocks), (("given", 0),))


def row_and_back(many=12):
    """Blocks in a row, from each of which but the first two an edge leads back to the one ahead."""
    names = NAMES[:many]
    ways = {}
    for at, name in enumerate(names):
        on = list(names[at + 1:at + 2])
        if at > 1:
            on.append(names[at - 1])
        ways[name] = on
    return blocks_only(ways)


def middle():
    """A loop that is entered at two blocks and has no head."""
    return blocks_only({"top": ("a", "b"), "a": ("b", "c"), "b": ("a",), "c": ()})


def random_ways(chance, many):
    """Ways of blocks, all of which are reached."""
    names = NAMES[:many]
    while True:
        ways = {}
        for name in names:
            others = list(names[1:])
            count = chance.choice((0, 1, 1, 2, 2, 2))
            count = min(count, len(others))
            ways[name] = tuple(chance.sample(others, count))
        reached = reach(ways, "top", ())
        kept = {name: ways[name] for name in names if name in reached}
        if len(kept) == many or chance.random() < 0.05:
            return kept


def random_graph(seed, most=12):
    """A graph by a seed, with deeds and nodes."""
    chance = random.Random(seed)
    ways = random_ways(chance, chance.randint(1, most))
    names = list(ways)
    ahead = {name: [one for one in names if name in ways[one]] for name in names}
    many = chance.randint(1, 40)
    deeds = {name: chance.choice((0, 0, 1, 1, 2, 3, 5)) for name in names}
    nodes = [random_node(chance, node, many, names, ahead, deeds) for node in range(many)]
    order = list(range(many))
    chance.shuffle(order)
    place = {order[at]: at for at in range(many)}
    moved = [None] * many
    for node in range(many):
        moved[place[node]] = renamed(nodes[node], place)
    blocks = []
    for name in names:
        body = tuple(random_deed(chance, many) for _ in range(deeds[name]))
        on = ways[name]
        if len(on) == 2:
            end = ("if", chance.randrange(many), on[0], on[1])
        elif on:
            end = ("goto", on[0])
        else:
            end = ("return", chance.randrange(many))
        blocks.append((name, body, end))
    return (tuple(blocks), tuple(moved))


def random_node(chance, node, many, names, ahead, deeds):
    """A node whose inputs, if it is no phi, are less."""
    kinds = ["word", "given"]
    if len(names) > 1:
        kinds.extend(["phi", "phi"])
    if node > 0:
        kinds.extend(["add", "sub", "mul", "and", "xor", "less", "same", "pick", "div", "rest", "load", "load"])
    kind = chance.choice(kinds)
    if kind == "word":
        return ("word", chance.choice((0, 1, 65535, chance.randrange(65536))))
    if kind == "given":
        return ("given", chance.randrange(4))
    if kind == "phi":
        name = chance.choice(names[1:])
        return ("phi", name, tuple(chance.randrange(many) for _ in ahead[name]))
    if kind == "pick":
        return ("pick", chance.randrange(node), chance.randrange(node), chance.randrange(node))
    if kind == "load":
        name = chance.choice(names)
        return ("load", chance.randrange(2), chance.randrange(node), (name, chance.randint(0, deeds[name])))
    return (kind, chance.randrange(node), chance.randrange(node))


def random_deed(chance, many):
    """A deed of nodes below many."""
    kind = chance.choice(("out", "store", "store", "check"))
    if kind == "store":
        return ("store", chance.randrange(2), chance.randrange(many), chance.randrange(many))
    return (kind, chance.randrange(many))


def renamed(node, place):
    """A node whose inputs have other numbers."""
    if node[0] in ("word", "given"):
        return node
    if node[0] == "phi":
        return ("phi", node[1], tuple(place[one] for one in node[2]))
    if node[0] == "load":
        return ("load", node[1], place[node[2]], node[3])
    return (node[0], *(place[one] for one in node[1:]))


def ways_by_hand(graph):
    """A dict of names and ways."""
    return {name: end[1:] if end[0] == "goto" else end[2:] if end[0] == "if" else () for name, _, end in graph[0]}


def reach(ways, start, without):
    """The blocks to which a path leads from start, without some."""
    found = set()
    rows = [start]
    while rows:
        name = rows.pop()
        if name not in found and name not in without:
            found.add(name)
            rows.extend(ways[name])
    return found


def block_over(ways, entry, one, other):
    """Whether each path from the entry to other has one in it."""
    return other not in reach(ways, entry, (one,))


def slot_over(graph, slot, other):
    """Whether a slot dominates another."""
    if slot[0] == other[0]:
        return slot[1] <= other[1]
    return block_over(ways_by_hand(graph), graph[0][0][0], slot[0], other[0])


def simple_paths(ways, start, end):
    """All paths of two blocks or more from start to end with no block twice, but that one may begin at its end."""
    found = []
    rows = [(start,)]
    while rows:
        path = rows.pop()
        for way in ways[path[-1]]:
            if way == end:
                found.append((*path, way))
            elif way not in path:
                rows.append((*path, way))
    return found


def tried_joins(graph, blocks):
    """The joins of blocks, by trying all pairs of paths."""
    ways = ways_by_hand(graph)
    starts = sorted(set(blocks) | {graph[0][0][0]})
    found = []
    for end in ways:
        pairs = [(one, other) for one in starts for other in starts if one < other]
        if any(apart(ways, one, other, end) for one, other in pairs):
            found.append(end)
    return tuple(found)


def apart(ways, one, other, end):
    """Whether two paths lead from one and other to an end with no block in common but that."""
    behind = simple_paths(ways, other, end)
    return any(set(path) & set(second) == {end} for path in simple_paths(ways, one, end) for second in behind)
