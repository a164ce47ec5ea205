"""Where a node's word is known not to be 0."""

from seaplace.facts import ends_in, predecessors_in
from seaplace.graphs import need_graph
from seaplace.needs import need_node, need_slot
from seaplace.trees import above_in, slot_is_above


def opens(graph, node):
    """The blocks to which one edge alone goes, that of an "if" of this node where its word isn't 0."""
    ends = ends_in(graph)
    found = []
    for name, ahead in predecessors_in(graph).items():
        if len(ahead) == 1 and ends[ahead[0]][:3] == ("if", node, name):
            found.append(name)
    return found


def guards_in(graph, node):
    """The slots behind which a node's word isn't 0, in the order of blocks."""
    heads = opens(graph, node)
    rows = []
    for name, deeds, _ in graph[0]:
        if name in heads:
            rows.append((name, 0))
        for place, deed in enumerate(deeds):
            if deed == ("check", node):
                rows.append((name, place + 1))
    return tuple(rows)


def guards_of(graph, node):
    """The slots behind checks of a node, and those into which an "if" of it leads, in the order of blocks."""
    need_graph(graph)
    need_node(graph, node)
    return guards_in(graph, node)


def is_guarded(graph, node, slot):
    """Whether a node is a word other than 0, or a guard of it dominates a slot."""
    need_graph(graph)
    need_node(graph, node)
    need_slot(graph, slot)
    thing = graph[1][node]
    if thing[0] == "word" and thing[1] != 0:
        return True
    over = above_in(graph)
    return any([slot_is_above(over, one, slot) for one in guards_in(graph, node)])
