"""Frontiers, and the blocks at which paths from some blocks join."""

from seaplace.facts import names_in, predecessors_in
from seaplace.graphs import need_graph
from seaplace.needs import need_block, need_blocks
from seaplace.trees import above_in


def frontiers_in(graph):
    """A dict of each block and its frontier, a tuple in the order of blocks."""
    names = names_in(graph)
    ahead = predecessors_in(graph)
    over = above_in(graph)
    found = {name: {} for name in names}
    for other in names:
        for one in ahead[other]:
            for name in over[one]:
                if name == other or name not in over[other]:
                    front = found[name]
                    front[other] = True
    return {name: tuple(found[name]) for name in names}


def joins_in(graph, blocks):
    """The joins of these blocks, in the order of blocks."""
    fronts = frontiers_in(graph)
    rows = list(blocks)
    found = set()
    while rows:
        name = rows.pop()
        for other in fronts[name]:
            if other not in found:
                found.add(other)
                rows.append(other)
    return tuple([name for name in names_in(graph) if name in found])


def frontier(graph, block):
    """The blocks just behind those that this one dominates, in the order of blocks."""
    need_graph(graph)
    need_block(graph, block)
    return frontiers_in(graph)[block]


def joins(graph, blocks):
    """The blocks at which paths from two of these blocks and the entry join, in the order of blocks."""
    need_graph(graph)
    need_blocks(graph, blocks)
    return joins_in(graph, blocks)
