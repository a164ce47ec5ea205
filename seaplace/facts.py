"""What the blocks and nodes of a good graph tell; nothing is looked at twice here."""

from seaplace.parts import asked_by
from seaplace.words import is_among


def entry_of(graph):
    """The name of the first block."""
    return graph[0][0][0]


def names_in(graph):
    """The blocks' names, in order."""
    return tuple([block[0] for block in graph[0]])


def deeds_in(graph):
    """A dict of the blocks' names and deeds."""
    return {block[0]: block[1] for block in graph[0]}


def ends_in(graph):
    """A dict of the blocks' names and ENDs."""
    return {block[0]: block[2] for block in graph[0]}


def ways_by(end):
    """The names that an END names."""
    if end[0] == "goto":
        return (end[1],)
    if end[0] == "if":
        return (end[2], end[3])
    return ()


def ways_in(graph):
    """A dict of the blocks' names and those that their ENDs name."""
    return {block[0]: ways_by(block[2]) for block in graph[0]}


def predecessors_in(graph):
    """A dict of the blocks' names and their predecessors', in the order of blocks."""
    found = {name: [] for name in names_in(graph)}
    for name, ways in ways_in(graph).items():
        for way in ways:
            found[way].append(name)
    return {name: tuple(found[name]) for name in found}


def reached_in(ways, start, without):
    """A dict of True by the blocks to which paths from start lead that have none of these blocks in them."""
    if start in without:
        return {}
    reached = {start: True}
    rows = [start]
    while rows:
        name = rows.pop()
        for way in ways[name]:
            if way not in reached and way not in without:
                reached[way] = True
                rows.append(way)
    return reached


def slots_in(graph):
    """All slots, block by block."""
    return tuple([(block[0], place) for block in graph[0] for place in range(len(block[1]) + 1)])


def has_slot(deeds, thing):
    """Whether a thing is a slot of blocks with these deeds, a dict by names."""
    if not isinstance(thing, tuple) or len(thing) != 2 or not isinstance(thing[0], str):
        return False
    return thing[0] in deeds and is_among(thing[1], 0, len(deeds[thing[0]]))


def asks_in(graph):
    """A list of pairs of a slot and a node that its deed, or its block's END, asks for."""
    rows = []
    for name, deeds, end in graph[0]:
        for place, thing in enumerate((*deeds, end)):
            rows.extend([((name, place), node) for node in asked_by(thing)])
    return rows


def live_in(graph):
    """The live nodes, rising."""
    rows = [node for _, node in asks_in(graph)]
    found = set()
    while rows:
        node = rows.pop()
        if node not in found:
            found.add(node)
            rows.extend(asked_by(graph[1][node]))
    return tuple(sorted(found))


def uses_in(graph):
    """The fixed uses, pairs of a slot and a node, rising, none twice."""
    rows = asks_in(graph)
    deeds = deeds_in(graph)
    ahead = predecessors_in(graph)
    for node in live_in(graph):
        thing = graph[1][node]
        if thing[0] == "phi":
            rows.extend([((name, len(deeds[name])), asked) for name, asked in zip(ahead[thing[1]], thing[2])])
    return tuple(sorted(set(rows)))
