"""Graphs: blocks that branch, join and loop, and a sea of nodes."""

from seaplace.errors import BadGraph
from seaplace.facts import deeds_in, has_slot, live_in, names_in, slots_in, uses_in, ways_by
from seaplace.forms import fault_of
from seaplace.needs import need_block, need_node
from seaplace.parts import asked_by


def is_graph(thing):
    """Whether a thing is a graph."""
    return fault_of(thing) is None


def need_graph(graph):
    """None, or BadGraph by what this is no graph."""
    fault = fault_of(graph)
    if fault is not None:
        raise BadGraph(fault[0], fault[1])


def names_of(graph):
    """The blocks' names, in order."""
    need_graph(graph)
    return names_in(graph)


def block_of(graph, name):
    """The block of this name."""
    need_graph(graph)
    need_block(graph, name)
    return graph[0][names_in(graph).index(name)]


def node_of(graph, node):
    """The node of this number."""
    need_graph(graph)
    need_node(graph, node)
    return graph[1][node]


def ways_of(graph, name):
    """The names that the END of this block names, in order."""
    return ways_by(block_of(graph, name)[2])


def predecessors(graph, name):
    """The names of the blocks from which edges go to this one, in the order of blocks."""
    need_graph(graph)
    need_block(graph, name)
    return tuple([block[0] for block in graph[0] if name in ways_by(block[2])])


def inputs_of(graph, node):
    """The inputs of this node, in their order."""
    return asked_by(node_of(graph, node))


def slots_of(graph):
    """All slots, block by block."""
    need_graph(graph)
    return slots_in(graph)


def is_slot(graph, thing):
    """Whether a thing is a slot of the graph."""
    need_graph(graph)
    return has_slot(deeds_in(graph), thing)


def live_nodes(graph):
    """The nodes that deeds and ENDs ask for, and the inputs of live ones, rising."""
    need_graph(graph)
    return live_in(graph)


def floating_nodes(graph):
    """The live nodes that are neither phis nor givens, rising."""
    need_graph(graph)
    return tuple([node for node in live_in(graph) if graph[1][node][0] not in ("phi", "given")])


def fixed_uses(graph):
    """What deeds, ENDs and live phis ask for: pairs of a slot and a node, rising."""
    need_graph(graph)
    return uses_in(graph)
