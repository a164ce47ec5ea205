"""Dominators of blocks and slots, chains and meets."""

from seaplace.facts import deeds_in
from seaplace.graphs import need_graph
from seaplace.needs import need_block, need_slot, need_slots
from seaplace.trees import above_in, chain_in, meet_in, slot_is_above, tree_in


def dominators(graph):
    """A dict of each block but the entry and its dominator, in the order of blocks."""
    need_graph(graph)
    return tree_in(graph)


def dominates(graph, slot, other):
    """Whether a slot dominates another one."""
    need_graph(graph)
    need_slot(graph, slot)
    need_slot(graph, other)
    return slot_is_above(above_in(graph), slot, other)


def chain(graph, slot):
    """All slots that dominate this one, the highest first, itself last."""
    need_graph(graph)
    need_slot(graph, slot)
    return tuple(chain_in(above_in(graph), deeds_in(graph), slot))


def meet(graph, slots):
    """The lowest slot that dominates all these."""
    need_graph(graph)
    need_slots(graph, slots)
    return meet_in(above_in(graph), deeds_in(graph), slots)


def above(graph, block):
    """The blocks that dominate this one, the entry first, itself last."""
    need_graph(graph)
    need_block(graph, block)
    return above_in(graph)[block]
