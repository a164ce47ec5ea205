"""Versions of the regions, and which of them is current where."""

from seaplace.facts import deeds_in, entry_of, names_in
from seaplace.graphs import need_graph
from seaplace.joins import joins_in
from seaplace.needs import need_region, need_slot
from seaplace.trees import above_in, chain_in


def stores_in(graph, region):
    """The blocks that store to a region, a list, in order."""
    return [
        name for name, deeds, _ in graph[0]
        if any([deed[0] == "store" and deed[1] == region for deed in deeds])
    ]


def heads_in(graph, region):
    """The new heads of a region, in the order of blocks."""
    met = joins_in(graph, stores_in(graph, region))
    return tuple([name for name in names_in(graph) if name == entry_of(graph) or name in met])


def versions_in(graph, region):
    """The slots in which the versions of a region begin, in the order of blocks."""
    heads = heads_in(graph, region)
    rows = []
    for name, deeds, _ in graph[0]:
        if name in heads:
            rows.append((name, 0))
        for place, deed in enumerate(deeds):
            if deed[0] == "store" and deed[1] == region:
                rows.append((name, place + 1))
    return tuple(rows)


def new_heads(graph, region):
    """The entry and the joins of the blocks that store to a region, in the order of blocks."""
    need_graph(graph)
    need_region(region)
    return heads_in(graph, region)


def versions(graph, region):
    """The slots in which the versions of a region begin, in the order of blocks."""
    need_graph(graph)
    need_region(region)
    return versions_in(graph, region)


def current(graph, region, slot):
    """The lowest version of a region that dominates a slot."""
    need_graph(graph)
    need_region(region)
    need_slot(graph, slot)
    begun = versions_in(graph, region)
    return [one for one in chain_in(above_in(graph), deeds_in(graph), slot) if one in begun][-1]
