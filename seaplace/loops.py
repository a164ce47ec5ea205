"""Loops, and whether each of them is entered at its head alone."""

from seaplace.facts import names_in, predecessors_in, ways_in
from seaplace.graphs import need_graph
from seaplace.needs import need_block
from seaplace.trees import above_in


def loop_of(ahead, head, lasts):
    """A dict of True by the blocks of a loop: its head, and those from which a path without it leads to these."""
    found = {head: True}
    rows = list(lasts)
    while rows:
        name = rows.pop()
        if name not in found:
            found[name] = True
            rows.extend(ahead[name])
    return found


def loops_in(graph):
    """A list of each head and its loop's blocks, a tuple, both in the order of blocks."""
    names = names_in(graph)
    ahead = predecessors_in(graph)
    over = above_in(graph)
    rows = []
    for head in names:
        lasts = [name for name in ahead[head] if head in over[name]]
        if lasts:
            found = loop_of(ahead, head, lasts)
            rows.append((head, tuple([name for name in names if name in found])))
    return rows


def loops(graph):
    """A list of each head and its loop's blocks, a tuple, both in the order of blocks."""
    need_graph(graph)
    return loops_in(graph)


def depth_of(graph, block):
    """Of how many loops a block is one."""
    need_graph(graph)
    need_block(graph, block)
    return len([head for head, blocks in loops_in(graph) if block in blocks])


def is_reducible(graph):
    """Whether each path that ends where it began has a block in it that dominates all its blocks."""
    need_graph(graph)
    over = above_in(graph)
    # Without the edges back to heads just the paths of which no block dominates the others lead around.
    on = {name: [way for way in ways if way not in over[name]] for name, ways in ways_in(graph).items()}
    left = names_in(graph)
    while True:
        kept = [name for name in left if any([way in left for way in on[name]])]
        if len(kept) == len(left):
            return not kept
        left = kept
