"""By what a thing is no graph."""

from seaplace.facts import deeds_in, entry_of, has_slot, names_in, predecessors_in, reached_in, ways_by, ways_in
from seaplace.parts import DEED_WORDS, END_WORDS, NODE_WORDS, asked_by, has_parts, is_tuple_of
from seaplace.words import MOST_BLOCKS, MOST_DEEDS, MOST_NODES, is_name


def is_block(thing, many):
    """Whether a thing has the form of a block, where there are so many nodes."""
    if not is_tuple_of(thing, 3, 3) or not is_name(thing[0]) or not is_tuple_of(thing[1], 0, MOST_DEEDS):
        return False
    return all([has_parts(deed, DEED_WORDS, many) for deed in thing[1]]) and has_parts(thing[2], END_WORDS, many)


def bad_block(graph):
    """The number of the first thing among the blocks that is no block, or is called as one ahead."""
    blocks, nodes = graph
    names = set()
    for number, block in enumerate(blocks):
        if not is_block(block, len(nodes)) or block[0] in names:
            return number
        names.add(block[0])
    return None


def bad_end(graph):
    """The number of the first block whose END names no block, the entry, or one twice."""
    names = names_in(graph)
    for number, block in enumerate(graph[0]):
        ways = ways_by(block[2])
        if len(set(ways)) < len(ways) or not all([way in names[1:] for way in ways]):
            return number
    return None


def unreached(graph):
    """The number of the first block to which no path from the entry leads."""
    reached = reached_in(ways_in(graph), entry_of(graph), ())
    for number, name in enumerate(names_in(graph)):
        if name not in reached:
            return number
    return None


def is_node(thing, graph, deeds, ahead):
    """Whether a thing is a node of a graph whose blocks have these deeds and predecessors."""
    if not has_parts(thing, NODE_WORDS, len(graph[1])):
        return False
    if thing[0] == "phi":
        name = thing[1]
        return name in ahead and name != entry_of(graph) and len(thing[2]) == len(ahead[name])
    return thing[0] != "load" or has_slot(deeds, thing[3])


def bad_node(graph):
    """The number of the first thing among the nodes that is no node."""
    deeds = deeds_in(graph)
    ahead = predecessors_in(graph)
    for number, thing in enumerate(graph[1]):
        if not is_node(thing, graph, deeds, ahead):
            return number
    return None


def straight_inputs(nodes):
    """A list, by nodes, of the inputs of each; of none of a phi, since a ring may go through it."""
    rows = []
    for thing in nodes:
        if thing[0] == "phi":
            rows.append(())
        else:
            rows.append(asked_by(thing))
    return rows


def unsettled(inputs):
    """The nodes, rising, that are left where again and again those go all of whose inputs are gone."""
    left = list(range(len(inputs)))
    gone = set()
    while True:
        kept = []
        for node in left:
            if all([one in gone for one in inputs[node]]):
                gone.add(node)
            else:
                kept.append(node)
        if len(kept) == len(left):
            return kept
        left = kept


def comes_back(inputs, node):
    """Whether a node is among its inputs, their inputs, and so on."""
    rows = list(inputs[node])
    seen = set()
    while rows:
        one = rows.pop()
        if one == node:
            return True
        if one not in seen:
            seen.add(one)
            rows.extend(inputs[one])
    return False


def ring(graph):
    """The number of the first node that has itself among its inputs without a phi between."""
    inputs = straight_inputs(graph[1])
    for node in unsettled(inputs):
        if comes_back(inputs, node):
            return node
    return None


CHECKS = (("blocks", bad_block), ("ends", bad_end), ("reached", unreached), ("nodes", bad_node), ("rings", ring))


def fault_of(thing):
    """The part and the number by which a thing is no graph, a pair; None of a graph."""
    if not is_tuple_of(thing, 2, 2):
        return (None, None)
    if not is_tuple_of(thing[0], 1, MOST_BLOCKS):
        return ("blocks", None)
    if not is_tuple_of(thing[1], 0, MOST_NODES):
        return ("nodes", None)
    for part, first_bad in CHECKS:
        number = first_bad(thing)
        if number is not None:
            return (part, number)
    return None
