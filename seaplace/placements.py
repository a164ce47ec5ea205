"""Placements: which of them are legal, how many, and their numbers."""

from seaplace.bits import first_bit
from seaplace.errors import BadPlacement, NoNode, OutOfPlace, TooGreat
from seaplace.facts import has_slot
from seaplace.needs import need_most
from seaplace.parts import is_tuple_of
from seaplace.ranges import chart_of, is_over_all, sound_chart, unsound_node
from seaplace.words import MOST, is_among, is_whole


def stands_by(chart, placement):
    """A list, by nodes, of the slots in which they stand by a placement; None of what is none by its form."""
    if not is_tuple_of(placement, len(chart.floats), len(chart.floats)):
        return None
    stands = list(chart.own)
    for node, row in zip(chart.floats, placement):
        if not is_tuple_of(row, 2, 2) or not is_whole(row[0]) or row[0] != node:
            return None
        if not has_slot(chart.deeds, row[1]):
            return None
        stands[node] = chart.number[row[1]]
    return stands


def placement_of(chart, stands):
    """The placement by which floating nodes stand so."""
    return tuple([(node, chart.slots[stands[node]]) for node in chart.floats])


def fits(chart, stands, node):
    """Whether a floating node or a live phi fits."""
    own = stands[node]
    if chart.nodes[node][0] != "phi":
        if not chart.allowed[node] >> own & 1:
            return False
        if not all([chart.over[own] >> stands[one] & 1 for one in chart.inputs[node]]):
            return False
    return is_over_all(chart, own, chart.fixed[node])


def is_placed(chart, node):
    """Whether a live node floats or is a phi."""
    return chart.nodes[node][0] != "given"


def misfit(chart, stands):
    """The least floating node or live phi that doesn't fit, or None."""
    for node in chart.live:
        if is_placed(chart, node) and not fits(chart, stands, node):
            return node
    return None


def need_stands(chart, placement):
    """A list, by nodes, of the slots in which they stand by a legal placement, or BadPlacement."""
    stands = stands_by(chart, placement)
    if stands is None:
        raise BadPlacement(None)
    node = misfit(chart, stands)
    if node is not None:
        raise BadPlacement(node)
    return stands


def does_fit(graph, placement, node):
    """Whether a floating node or a live phi fits by a placement, be that legal or not."""
    chart = chart_of(graph)
    stands = stands_by(chart, placement)
    if stands is None:
        raise BadPlacement(None)
    if not is_among(node, 0, len(chart.nodes) - 1) or node not in chart.live or not is_placed(chart, node):
        raise NoNode(node)
    return fits(chart, stands, node)


def need_placement(graph, placement):
    """None, or BadPlacement of what is no legal placement."""
    need_stands(chart_of(graph), placement)


def is_placement(graph, placement):
    """Whether a thing is a legal placement."""
    chart = chart_of(graph)
    stands = stands_by(chart, placement)
    return stands is not None and misfit(chart, stands) is None


def early_placement(graph):
    """The legal placement in which each node stands in its earliest slot."""
    chart = sound_chart(graph)
    return placement_of(chart, chart.early)


def late_placement(graph):
    """The legal placement in which each node stands in its latest slot."""
    chart = sound_chart(graph)
    return placement_of(chart, chart.late)


def settle(chart, stands, nodes):
    """Puts these nodes, told in order, as high as their inputs let them stand."""
    for node in nodes:
        # All these slots are on one chain: the lowest of them has the greatest number.
        stands[node] = max([chart.early[node]] + [stands[one] for one in chart.inputs[node]])


def go_on(chart, stands):
    """Changes what stands where to the next legal placement, if there is one; whether there is."""
    for at in range(len(chart.order) - 1, -1, -1):
        node = chart.order[at]
        own = stands[node]
        if own != chart.late[node]:
            stands[node] = own + 1 + first_bit(chart.over[chart.late[node]] >> own + 1)
            settle(chart, stands, chart.order[at + 1:])
            return True
    return False


def first_stands(chart):
    """A list, by nodes, of where they stand by the first legal placement, or None of an unsound graph."""
    if unsound_node(chart) is not None:
        return None
    return list(chart.early)


def all_stands(chart, most):
    """A list of where nodes stand by each legal placement, by their numbers; TooGreat of more than most."""
    stands = first_stands(chart)
    found = []
    more = stands is not None
    while more:
        if len(found) == most:
            raise TooGreat("more placements are legal")
        found.append(list(stands))
        more = go_on(chart, stands)
    return found


def legal_placements(graph, *, most=MOST):
    """A list of all legal placements, by their numbers."""
    chart = chart_of(graph)
    need_most(most, MOST)
    return [placement_of(chart, stands) for stands in all_stands(chart, most)]


def count_placements(graph, *, most=MOST):
    """How many placements are legal."""
    chart = chart_of(graph)
    need_most(most, MOST)
    return len(all_stands(chart, most))


def nth_placement(graph, number):
    """The legal placement of a number."""
    chart = chart_of(graph)
    if not is_among(number, 0, MOST - 1):
        raise OutOfPlace("this is no number of a placement")
    stands = first_stands(chart)
    if stands is None:
        raise OutOfPlace("no placement is legal")
    for _ in range(number):
        if not go_on(chart, stands):
            raise OutOfPlace("fewer placements are legal")
    return placement_of(chart, stands)


def place_number(graph, placement):
    """The number of a legal placement."""
    chart = chart_of(graph)
    wanted = need_stands(chart, placement)
    stands = first_stands(chart)
    for number in range(MOST):
        if all([stands[node] == wanted[node] for node in chart.floats]):
            return number
        go_on(chart, stands)
    raise TooGreat("the number of this placement is too great")
