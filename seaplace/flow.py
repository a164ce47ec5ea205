"""Edges and paths."""

from seaplace.facts import ways_in
from seaplace.graphs import need_graph
from seaplace.needs import need_block, need_blocks
from seaplace.paths import way_back


def edges(graph):
    """A list of pairs of names: from each block, in order, to those that its END names, in order."""
    need_graph(graph)
    return [(name, way) for name, ways in ways_in(graph).items() for way in ways]


def search_on(ways, one, without):
    """A dict of each block that is reached from one without these, and the block ahead of it on a shortest way."""
    came = {one: None}
    rows = [one]
    at = 0
    while at < len(rows):
        here = rows[at]
        at += 1
        for way in ways[here]:
            if way not in came and way not in without:
                came[way] = here
                rows.append(way)
    return came


def shortest_path(graph, one, other, *, without=()):
    """A path of the fewest blocks from one to other with none of these blocks in it, or None."""
    need_graph(graph)
    need_block(graph, one)
    need_block(graph, other)
    need_blocks(graph, without)
    if one in without:
        return None
    came = search_on(ways_in(graph), one, without)
    if other not in came:
        return None
    steps = way_back(came, other)
    return (one, *[step[1] for step in reversed(steps)])
