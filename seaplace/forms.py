"""By what a thing is no graph.

Whatever is asked of a graph, it is looked at whole first: so things are taken apart by hand here, and what most of
them are is tried ahead of all else.
"""

from seaplace.bits import bits_of
from seaplace.facts import has_slot, reached_in, ways_by
from seaplace.parts import PAIRS, are_numbers, is_number, is_tuple_of
from seaplace.words import GIVENS, MOST_BLOCKS, MOST_DEEDS, MOST_NODES, REGIONS, WORD, is_name


def are_deeds(deeds, many):
    """Whether all of these things are deeds, where there are so many nodes."""
    for deed in deeds:
        if not isinstance(deed, tuple):
            return False
        if len(deed) == 2:
            word, node = deed
            if not isinstance(word, str) or word not in ("out", "check"):
                return False
        elif len(deed) == 4:
            word, region, address, node = deed
            if not isinstance(word, str) or word != "store":
                return False
            if not is_number(region, REGIONS) or not is_number(address, many):
                return False
        else:
            return False
        if type(node) is not int or not 0 <= node < many:
            if not is_number(node, many):
                return False
    return True


def is_end(end, many):
    """Whether a thing is an END, where there are so many nodes."""
    if not isinstance(end, tuple) or not end or not isinstance(end[0], str):
        return False
    if end[0] == "if":
        return len(end) == 4 and is_number(end[1], many) and is_name(end[2]) and is_name(end[3])
    if len(end) != 2:
        return False
    if end[0] == "goto":
        return is_name(end[1])
    return end[0] == "return" and is_number(end[1], many)


def bad_block(blocks, many):
    """The number of the first of these things that is no block, or is called as one ahead."""
    names = {}
    for number, block in enumerate(blocks):
        if not isinstance(block, tuple) or len(block) != 3:
            return number
        name, deeds, end = block
        if not is_name(name) or name in names or not isinstance(deeds, tuple) or len(deeds) > MOST_DEEDS:
            return number
        if not are_deeds(deeds, many) or not is_end(end, many):
            return number
        names[name] = True
    return None


def bad_end(blocks, ways):
    """The number of the first block whose ways lead to no block, the entry, or one twice."""
    entry = blocks[0][0]
    for number, block in enumerate(blocks):
        on = ways[block[0]]
        for way in on:
            if way not in ways or way == entry:
                return number
        if len(on) == 2 and on[0] == on[1]:
            return number
    return None


def unreached(blocks, ways):
    """The number of the first block to which no path from the entry leads."""
    reached = reached_in(ways, blocks[0][0], ())
    if len(reached) == len(blocks):
        return None
    return [block[0] in reached for block in blocks].index(False)


def is_phi_by(ahead, thing, many):
    """Whether the parts of a thing are a block to which ways lead, so many by a dict, and as many inputs."""
    _, name, inputs = thing
    if not isinstance(name, str) or not isinstance(inputs, tuple):
        return False
    return name in ahead and len(inputs) == ahead[name] and are_numbers(inputs, many)


def is_other_node(thing, ahead, deeds, many):
    """Whether a thing whose first word is a text, none of a pair, is a node, where there are so many."""
    word = thing[0]
    size = len(thing)
    if word == "load":
        if size != 4 or not is_number(thing[1], REGIONS) or not is_number(thing[2], many):
            return False
        return has_slot(deeds, thing[3])
    if word == "word":
        return size == 2 and is_number(thing[1], WORD)
    if word == "phi":
        return size == 3 and is_phi_by(ahead, thing, many)
    if word == "pick":
        return size == 4 and are_numbers(thing[1:], many)
    return word == "given" and size == 2 and is_number(thing[1], GIVENS)


def many_ahead(ways):
    """A dict of the blocks to which ways lead, and from how many blocks."""
    found = {}
    for on in ways.values():
        for way in on:
            found[way] = found.get(way, 0) + 1
    return found


def bad_node(nodes, blocks, ways):
    """The number of the first of these things that is no node."""
    many = len(nodes)
    ahead = many_ahead(ways)
    deeds = {name: rows for name, rows, _ in blocks}
    for number, thing in enumerate(nodes):
        if not isinstance(thing, tuple) or not thing or not isinstance(thing[0], str):
            return number
        if thing[0] in PAIRS:
            if len(thing) != 3:
                return number
            _, one, other = thing
            if type(one) is not int or type(other) is not int or not 0 <= one < many or not 0 <= other < many:
                if not is_number(one, many) or not is_number(other, many):
                    return number
        elif not is_other_node(thing, ahead, deeds, many):
            return number
    return None


def may_ring(nodes):
    """Whether some node has an input that isn't less than itself: on each ring there is one."""
    for node, thing in enumerate(nodes):
        if thing[0] in PAIRS:
            if thing[1] >= node or thing[2] >= node:
                return True
        elif thing[0] == "load":
            if thing[2] >= node:
                return True
        elif thing[0] == "pick" and max(thing[1:]) >= node:
            return True
    return False


def straight_marks(nodes):
    """A dict of the nodes that have inputs, as bits, and these; without phis, since a ring may go through them."""
    found = {}
    for node, thing in enumerate(nodes):
        if thing[0] in PAIRS:
            found[node] = 1 << thing[1] | 1 << thing[2]
        elif thing[0] == "load":
            found[node] = 1 << thing[2]
        elif thing[0] == "pick":
            found[node] = 1 << thing[1] | 1 << thing[2] | 1 << thing[3]
    return found


def unsettled(inputs):
    """The nodes, rising, that are left where again and again those go all of whose inputs are gone."""
    rows = list(inputs)
    left = 0
    for node in rows:
        left = left | 1 << node
    while True:
        kept = []
        for node in rows:
            if inputs[node] & left:
                kept.append(node)
            else:
                left = left ^ 1 << node
        if len(kept) == len(rows):
            return sorted(kept)
        # There and back again: inputs stand mostly all ahead of their users, or all behind them.
        kept.reverse()
        rows = kept


def users_among(inputs, left):
    """A dict of these nodes, and those of them, as bits, that have each among their inputs."""
    found = {node: 0 for node in left}
    for node in left:
        for one in bits_of(inputs[node]):
            if one in found:
                found[one] = found[one] | 1 << node
    return found


def comes_back(inputs, node):
    """Whether a node is among its inputs, their inputs, and so on."""
    found = 0
    more = inputs[node]
    while more != found:
        rows = bits_of(more ^ found)
        found = more
        for one in rows:
            more = more | inputs.get(one, 0)
    return found >> node & 1 == 1


def ring(nodes):
    """The number of the first node that has itself among its inputs without a phi between."""
    if not may_ring(nodes):
        return None
    inputs = straight_marks(nodes)
    left = unsettled(inputs)
    if not left:
        return None
    # Those that a ring leads to go first, then those that lead to one: what is left is on one, or between two.
    for node in unsettled(users_among(inputs, left)):
        if comes_back(inputs, node):
            return node
    return None


def fault_of(thing):
    """The part and the number by which a thing is no graph, a pair; None of a graph."""
    if not isinstance(thing, tuple) or len(thing) != 2:
        return (None, None)
    blocks, nodes = thing
    if not is_tuple_of(blocks, 1, MOST_BLOCKS):
        return ("blocks", None)
    if not is_tuple_of(nodes, 0, MOST_NODES):
        return ("nodes", None)
    number = bad_block(blocks, len(nodes))
    if number is not None:
        return ("blocks", number)
    ways = {name: ways_by(end) for name, _, end in blocks}
    number = bad_end(blocks, ways)
    if number is not None:
        return ("ends", number)
    number = unreached(blocks, ways)
    if number is not None:
        return ("reached", number)
    number = bad_node(nodes, blocks, ways)
    if number is not None:
        return ("nodes", number)
    number = ring(nodes)
    if number is not None:
        return ("rings", number)
    return None
