"""Which live nodes are alike, whatever is given: the congruence with the fewest classes."""

from seaplace.errors import OutOfPlace
from seaplace.needs import need_node
from seaplace.parts import asked_by
from seaplace.ranges import sound_chart

# The operations whose inputs may change places.
CROSSED = ("add", "mul", "and", "xor", "same")


def is_lone(nodes, node):
    """Whether a node is a quotient, or what is left, by anything but a word other than 0."""
    thing = nodes[node]
    return thing[0] in ("div", "rest") and (nodes[thing[2]][0] != "word" or nodes[thing[2]][1] == 0)


def kind_of(thing):
    """The first word of a node, and what it tells beside its inputs."""
    if thing[0] in ("word", "given", "phi"):
        return thing[:2]
    if thing[0] == "load":
        return (thing[0], thing[1], thing[3])
    return thing[:1]


def by_keys(keys):
    """A dict of nodes and the least node with the same key, of a dict of nodes, rising, and keys."""
    least = {}
    found = {}
    for node, key in keys.items():
        found[node] = least.setdefault(key, node)
    return found


def first_key(nodes, node):
    """What alike nodes have in common, their inputs left out."""
    if is_lone(nodes, node):
        return ("lone", node)
    return kind_of(nodes[node])


def next_key(nodes, node, parted):
    """What nodes have in common whose inputs, too, are of the same classes so far."""
    inputs = [parted[one] for one in asked_by(nodes[node])]
    if nodes[node][0] in CROSSED:
        inputs = sorted(inputs)
    return (parted[node], *inputs)


def rounds_of(chart):
    """Classes parted again and again, a list of dicts of the live nodes and their classes' least nodes."""
    nodes = chart.nodes
    found = [by_keys({node: first_key(nodes, node) for node in chart.live})]
    while True:
        parted = found[-1]
        after = by_keys({node: next_key(nodes, node, parted) for node in chart.live})
        if after == parted:
            return found
        found.append(after)


def least_alike(chart):
    """A dict of the live nodes and the least node that is alike to each."""
    return rounds_of(chart)[-1]


def classes_in(chart):
    """The classes, rising tuples, by their least nodes rising."""
    rows = {}
    for node, least in least_alike(chart).items():
        rows[least] = rows.get(least, ()) + (node,)
    return tuple(list(rows.values()))


def classes(graph):
    """The classes of nodes that are alike, rising tuples, by their least nodes rising."""
    return classes_in(sound_chart(graph))


def are_alike(graph, one, other):
    """Whether two live nodes are alike."""
    chart = sound_chart(graph)
    need_node(graph, one)
    need_node(graph, other)
    for node in (one, other):
        if node not in chart.live:
            raise OutOfPlace("this node isn't live")
    least = least_alike(chart)
    return least[one] == least[other]
