"""Which blocks and slots of a good graph dominate which."""

from seaplace.facts import entry_of, names_in, reached_in, ways_in


def above_in(graph):
    """A dict of each block's name and the blocks that dominate it, a tuple, the entry first, itself last."""
    names = names_in(graph)
    ways = ways_in(graph)
    found = {name: [] for name in names}
    for name in names:
        reached = reached_in(ways, entry_of(graph), (name,))
        for other in names:
            if other not in reached:
                found[other].append(name)
    return {name: tuple(from_above(found, name)) for name in names}


def from_above(found, name):
    """The blocks that dominate this one, the highest first, where all such are found in some order."""
    # Of two blocks on one chain the lower one is dominated by more.
    rows = sorted([(len(found[one]), one) for one in found[name]])
    return [one for _, one in rows]


def tree_in(graph):
    """A dict of each block but the entry and its dominator, in the order of blocks."""
    above = above_in(graph)
    return {name: above[name][-2] for name in names_in(graph)[1:]}


def slot_is_above(above, slot, other):
    """Whether a slot dominates another, by what dominates the blocks."""
    if slot[0] == other[0]:
        return slot[1] <= other[1]
    return slot[0] in above[other[0]]


def chain_in(above, deeds, slot):
    """All slots that dominate this one, a list, the highest first, by what dominates the blocks, and their deeds."""
    name, last = slot
    rows = [(one, place) for one in above[name][:-1] for place in range(len(deeds[one]) + 1)]
    return rows + [(name, place) for place in range(last + 1)]


def meet_in(above, deeds, slots):
    """The lowest slot that dominates all these, by what dominates the blocks, and their deeds."""
    rows = chain_in(above, deeds, slots[0])
    shared = [one for one in rows if all([slot_is_above(above, one, slot) for slot in slots])]
    return shared[-1]
