"""What the blocks and nodes of a good graph tell; nothing is looked at twice here."""

from seaplace.parts import asked_by, is_number


def entry_of(graph):
    """The name of the first block."""
    return graph[0][0][0]


def names_in(graph):
    """The blocks' names, in order."""
    return tuple([block[0] for block in graph[0]])


def deeds_in(graph):
    """A dict of the blocks' names and deeds."""
    return {block[0]: block[1] for block in graph[0]}


def ends_in(graph):
    """A dict of the blocks' names and ENDs."""
    return {block[0]: block[2] for block in graph[0]}


def ways_by(end):
    """The names that an END names."""
    if end[0] == "goto":
        return (end[1],)
    if end[0] == "if":
        return (end[2], end[3])
    return ()


def ways_in(graph):
    """A dict of the blocks' names and those that their ENDs name."""
    return {block[0]: ways_by(block[2]) for block in graph[0]}


def predecessors_in(graph):
    """A dict of the blocks' names and their predecessors', in the order of blocks."""
    found = {name: [] for name in names_in(graph)}
    for name, ways in ways_in(graph).items():
        for way in ways:
            found[way].append(name)
    return {name: tuple(found[name]) for name in found}


def reached_in(ways, start, without):
    """A dict of True by the blocks to which paths from start lead that have none of these blocks in them."""
    if start in without:
        return {}
    reached = {start: True}
    rows = [start]
    while rows:
        name = rows.pop()
        for way in ways[name]:
            if way not in reached and way not in without:
                reached[way] = True
                rows.append(way)
    return reached


def slots_in(graph):
    """All slots, block by block."""
    return tuple([(block[0], place) for block in graph[0] for place in range(len(block[1]) + 1)])


def has_slot(deeds, thing):
    """Whether a thing is a slot of blocks with these deeds, a dict by names."""
    if not isinstance(thing, tuple) or len(thing) != 2:
        return False
    name, place = thing
    return isinstance(name, str) and name in deeds and is_number(place, len(deeds[name]) + 1)


def live_in(graph):
    """The live nodes, rising."""
    rows = []
    for _, deeds, end in graph[0]:
        for deed in deeds:
            rows.extend(asked_by(deed))
        rows.extend(asked_by(end))
    nodes = graph[1]
    live = [False] * len(nodes)
    while rows:
        node = rows.pop()
        if not live[node]:
            live[node] = True
            rows.extend(asked_by(nodes[node]))
    return tuple([node for node, is_live in enumerate(live) if is_live])


def phi_asks(graph):
    """A list of pairs of a block's name and a node that its last slot is asked for by a live phi."""
    phis = [graph[1][node] for node in live_in(graph) if graph[1][node][0] == "phi"]
    if not phis:
        return []
    ahead = predecessors_in(graph)
    return [(name, node) for _, block, inputs in phis for name, node in zip(ahead[block], inputs)]


def uses_in(graph):
    """The fixed uses, pairs of a slot and a node, rising, none twice."""
    asks = {}
    for name, deeds, end in graph[0]:
        asks[name] = [asked_by(deed) for deed in deeds]
        asks[name].append(asked_by(end))
    for name, node in phi_asks(graph):
        slots = asks[name]
        slots[-1] = slots[-1] + (node,)
    rows = []
    for name in sorted(asks):
        for place, nodes in enumerate(asks[name]):
            slot = (name, place)
            if len(nodes) > 1:
                nodes = sorted(set(nodes))
            for node in nodes:
                rows.append((slot, node))
    return tuple(rows)
