"""What each deed of a unit makes of what it stands at."""

from seaplace.costs import MOST_COUNT, need_hold
from seaplace.errors import BadProfile, Nothing, OutOfPlace, TooGreat, Twice, Unsound
from seaplace.facts import live_in, names_in, ways_in
from seaplace.needs import need_block, need_node, need_slot
from seaplace.simpler import folded_in, merged_in, places_in, tidied_in
from seaplace.standings import Standing, with_graph, with_pins
from seaplace.words import MOST_BLOCKS, MOST_DEEDS, MOST_NODES, is_among, is_name

# How few and how many things each takes.
TAKES = {
    "put_node": (2, 2), "add_node": (1, 1), "add_deed": (2, 3), "drop_deed": (2, 2), "set_end": (2, 2),
    "split_edge": (3, 3), "set_count": (2, 2), "set_hold": (1, 1), "pin": (2, 2), "unpin": (1, 1), "merge": (0, 0),
    "fold": (0, 0), "tidy": (0, 0),
}
MOST_DEEDS_AS_ONE = 20


class Attempt:
    """Deeds done one behind the other: what all stands at behind those that are done, and a row for each of these."""

    def __init__(self, standing):
        self.standing = standing
        self.rows = []


def put_node(standing, node, thing):
    """A thing in the place of a node."""
    blocks, nodes = standing.graph
    need_node(standing.graph, node)
    after = (blocks, (*nodes[:node], thing, *nodes[node + 1:]))
    return with_graph(standing, after, standing.counts, standing.pins)


def add_node(standing, thing):
    """A node behind all."""
    blocks, nodes = standing.graph
    if len(nodes) == MOST_NODES:
        raise TooGreat("there may be no more nodes")
    return with_graph(standing, (blocks, (*nodes, thing)), standing.counts, standing.pins)


def block_in(graph, name):
    """The number of a block, its deeds and its END; NoBlock."""
    need_block(graph, name)
    number = names_in(graph).index(name)
    return (number, graph[0][number][1], graph[0][number][2])


def with_block(graph, number, *rows):
    """The blocks of a graph, a tuple, with these in the place of one."""
    return (*graph[0][:number], *rows, *graph[0][number + 1:])


def shifted(slot, name, at, by):
    """A slot, which of a block may be another one where it is behind a place."""
    if slot[0] == name and slot[1] > at:
        return (name, slot[1] + by)
    return slot


def with_shift(standing, number, deeds, at, by):
    """What comes where a block has other deeds, and its slots behind a place are others."""
    name, _, end = standing.graph[0][number]
    nodes = []
    for thing in standing.graph[1]:
        if thing[0] == "load":
            nodes.append((*thing[:3], shifted(thing[3], name, at, by)))
        else:
            nodes.append(thing)
    pins = [(node, shifted(slot, name, at, by)) for node, slot in standing.pins]
    after = (with_block(standing.graph, number, (name, deeds, end)), tuple(nodes))
    return with_graph(standing, after, standing.counts, pins)


def add_deed(standing, block, deed, at=None):
    """A deed ahead of another one of a block, or at the end."""
    number, deeds, _ = block_in(standing.graph, block)
    if at is None:
        at = len(deeds)
    if not is_among(at, 0, len(deeds)):
        raise OutOfPlace("a deed comes ahead of another one, or at the end")
    if len(deeds) == MOST_DEEDS:
        raise TooGreat("there may be no more deeds in a block")
    return with_shift(standing, number, (*deeds[:at], deed, *deeds[at:]), at, 1)


def need_unread(graph, region, slot):
    """None, or Unsound of the least live load that has the word of a region by this version."""
    for node in live_in(graph):
        thing = graph[1][node]
        if thing[0] == "load" and thing[1] == region and thing[3] == slot:
            raise Unsound(node)


def drop_deed(standing, block, at):
    """A block without one of its deeds."""
    number, deeds, _ = block_in(standing.graph, block)
    if not is_among(at, 0, len(deeds) - 1):
        raise OutOfPlace("there is no such deed")
    if deeds[at][0] == "store":
        need_unread(standing.graph, deeds[at][1], (block, at + 1))
    return with_shift(standing, number, (*deeds[:at], *deeds[at + 1:]), at, -1)


def set_end(standing, block, end):
    """Another END of a block."""
    number, deeds, _ = block_in(standing.graph, block)
    after = (with_block(standing.graph, number, (block, deeds, end)), standing.graph[1])
    return with_graph(standing, after, standing.counts, standing.pins)


def led_to(end, to, name):
    """An END that names one block in the place of another."""
    if end[0] == "goto":
        return ("goto", name)
    return ("if", end[1], *[name if way == to else way for way in end[2:]])


def split_edge(standing, block, to, name):
    """A block between two."""
    graph = standing.graph
    number, deeds, end = block_in(graph, block)
    need_block(graph, to)
    if to not in ways_in(graph)[block]:
        raise OutOfPlace("no edge goes there")
    if not is_name(name):
        raise OutOfPlace("this is no name")
    if name in names_in(graph):
        raise Twice("there is a block of this name")
    if len(graph[0]) == MOST_BLOCKS:
        raise TooGreat("there may be no more blocks")
    counts = dict(standing.counts)
    counts[name] = min(counts[block], counts[to])
    blocks = with_block(graph, number, (block, deeds, led_to(end, to, name)), (name, (), ("goto", to)))
    return with_graph(standing, (blocks, graph[1]), counts, standing.pins)


def set_count(standing, block, count):
    """Another count of a block."""
    need_block(standing.graph, block)
    if not is_among(count, 0, MOST_COUNT):
        raise BadProfile(block)
    counts = dict(standing.counts)
    counts[block] = count
    return Standing(standing.chart, counts, standing.pins, standing.hold)


def set_hold(standing, hold):
    """Another hold."""
    need_hold(hold)
    return Standing(standing.chart, standing.counts, standing.pins, hold)


def without_pin(standing, node):
    """The pins, a list, of all other nodes."""
    return [(one, slot) for one, slot in standing.pins if one != node]


def pin(standing, node, slot):
    """A pin of a node, in the place of its own if it has one."""
    need_node(standing.graph, node)
    if node not in standing.chart.floats:
        raise OutOfPlace("this node doesn't float")
    need_slot(standing.graph, slot)
    return with_pins(standing, sorted(without_pin(standing, node) + [(node, (slot[0], slot[1]))]))


def unpin(standing, node):
    """A node without its pin."""
    need_node(standing.graph, node)
    pins = without_pin(standing, node)
    if len(pins) == len(standing.pins):
        raise Nothing("this node has no pin")
    return with_pins(standing, pins)


def merge(standing):
    """The graph merged."""
    return with_graph(standing, merged_in(standing.chart), standing.counts, standing.pins)


def fold(standing):
    """The graph folded."""
    return with_graph(standing, folded_in(standing.graph), standing.counts, standing.pins)


def tidy(standing):
    """The graph tidied; pinned nodes are called by their new places."""
    places = places_in(standing.graph)
    pins = [(places[node], slot) for node, slot in standing.pins]
    return with_graph(standing, tidied_in(standing.graph), standing.counts, pins)


ACTS = {
    "put_node": put_node, "add_node": add_node, "add_deed": add_deed, "drop_deed": drop_deed, "set_end": set_end,
    "split_edge": split_edge, "set_count": set_count, "set_hold": set_hold, "pin": pin, "unpin": unpin,
    "merge": merge, "fold": fold, "tidy": tidy,
}


def row_of(standing, word, things):
    """The row of a deed that can be done: where a deed comes is told as a number."""
    if word == "add_deed" and (len(things) == 2 or things[2] is None):
        return (word, things[0], things[1], len(standing.chart.deeds[things[0]]))
    return (word, *things)


def do_one(attempt, word, things):
    """Does one deed, if it can be done."""
    act = ACTS[word]
    after = act(attempt.standing, *things)
    attempt.rows.append(row_of(attempt.standing, word, things))
    attempt.standing = after


def do_many(attempt, deeds):
    """Does deeds one behind the other, each if it can be done."""
    if not isinstance(deeds, tuple) or not 1 <= len(deeds) <= MOST_DEEDS_AS_ONE:
        raise OutOfPlace("deeds as one are a tuple of one to twenty tuples")
    if not all([isinstance(deed, tuple) for deed in deeds]):
        raise OutOfPlace("each deed is a tuple")
    for deed in deeds:
        if not deed or not isinstance(deed[0], str) or deed[0] not in TAKES:
            raise OutOfPlace("this is no deed's name")
        least, most = TAKES[deed[0]]
        if not least <= len(deed) - 1 <= most:
            raise OutOfPlace("this deed takes fewer or more things")
        do_one(attempt, deed[0], deed[1:])
