"""Which blocks and slots of a good graph dominate which."""

from seaplace.bits import bits_of
from seaplace.facts import entry_of, names_in, reached_in, ways_in


def over_in(ahead):
    """A list of the places of blocks that dominate each, as bits; by lists of the places from which edges go to it.

    The entry has place 0, and each block one behind all that dominate it.
    """
    found = [1] + [-1] * (len(ahead) - 1)
    changed = True
    while changed:
        changed = False
        for place in range(1, len(ahead)):
            marks = -1
            for one in ahead[place]:
                marks = marks & found[one]
            marks = marks | 1 << place
            if marks != found[place]:
                found[place] = marks
                changed = True
    return found


def above_in(graph):
    """A dict of each block's name and the blocks that dominate it, a tuple, the entry first, itself last."""
    ways = ways_in(graph)
    # Whichever way a block is found from the entry, those that dominate it are found ahead of it.
    found = list(reached_in(ways, entry_of(graph), ()))
    places = {name: place for place, name in enumerate(found)}
    ahead = [[] for _ in found]
    for name, on in ways.items():
        for way in on:
            ahead[places[way]].append(places[name])
    over = over_in(ahead)
    return {name: tuple([found[one] for one in bits_of(over[places[name]])]) for name in names_in(graph)}


def tree_in(graph):
    """A dict of each block but the entry and its dominator, in the order of blocks."""
    above = above_in(graph)
    return {name: above[name][-2] for name in names_in(graph)[1:]}


def slot_is_above(above, slot, other):
    """Whether a slot dominates another, by what dominates the blocks."""
    if slot[0] == other[0]:
        return slot[1] <= other[1]
    return slot[0] in above[other[0]]


def chain_in(above, deeds, slot):
    """All slots that dominate this one, a list, the highest first, by what dominates the blocks, and their deeds."""
    name, last = slot
    rows = [(one, place) for one in above[name][:-1] for place in range(len(deeds[one]) + 1)]
    return rows + [(name, place) for place in range(last + 1)]


def meet_in(above, deeds, slots):
    """The lowest slot that dominates all these, by what dominates the blocks, and their deeds."""
    rows = chain_in(above, deeds, slots[0])
    shared = [one for one in rows if all([slot_is_above(above, one, slot) for slot in slots])]
    return shared[-1]
