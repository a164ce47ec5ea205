"""The placement that costs least, also where some nodes are pinned."""

from seaplace.choices import Choice, chosen
from seaplace.costs import counts_at, price_of
from seaplace.errors import BadPlacement, OutOfPlace, Unsound
from seaplace.facts import has_slot
from seaplace.parts import is_tuple_of
from seaplace.placements import placement_of
from seaplace.ranges import ranges_by, sound_chart
from seaplace.words import HOLD, is_among


def is_in_range(chart, node, slot):
    """Whether a thing is a slot from a floating node's earliest one to its latest."""
    if not has_slot(chart.deeds, slot):
        return False
    number = chart.number[slot]
    return chart.over[chart.late[node]] & chart.under[chart.early[node]] & 1 << number > 0


def need_pins(chart, pins):
    """A dict of the pinned nodes and their slots; OutOfPlace of no tuple of pairs, BadPlacement of the first wrong."""
    if not isinstance(pins, tuple) or not all([is_tuple_of(pin, 2, 2) for pin in pins]):
        raise OutOfPlace("pins are told as a tuple of pairs")
    found = {}
    least = 0
    for node, slot in pins:
        if not is_among(node, least, len(chart.nodes) - 1) or node not in chart.floats:
            raise BadPlacement(node)
        if not is_in_range(chart, node, slot):
            raise BadPlacement(node)
        found[node] = chart.number[slot]
        least = node + 1
    return found


def high_slots(chart, pinned):
    """A list, by nodes, of the highest slot in which each may stand with these nodes pinned."""
    found = list(chart.own)
    for node in chart.order:
        above = [found[one] for one in chart.inputs[node]]
        found[node] = max(above + [chart.early[node], pinned.get(node, 0)])
    return found


def low_slots(chart, pinned):
    """A list, by nodes, of the lowest slot in which each may stand with these nodes pinned."""
    found = list(chart.own)
    for node in reversed(chart.order):
        below = [found[user] for user in chart.users[node]]
        found[node] = min(below + [chart.late[node], pinned.get(node, chart.late[node])])
    return found


def need_bounds(chart, pins):
    """Two lists, by nodes, of the highest and the lowest slots with these pins, or Unsound of a node without one."""
    pinned = need_pins(chart, pins)
    high = high_slots(chart, pinned)
    low = low_slots(chart, pinned)
    for node in chart.floats:
        # Both are on one chain: of two slots there the lower one has the greater number.
        if high[node] > low[node]:
            raise Unsound(node)
    return (high, low)


def pinned_ranges(graph, pins=()):
    """Each floating node, rising, with the highest and the lowest slot in which it may stand with these pins."""
    chart = sound_chart(graph)
    high, low = need_bounds(chart, pins)
    return ranges_by(chart, high, low)


def cheapest(graph, *, profile=None, hold=HOLD, pins=(), early=False):
    """The placement that costs least with these pins: of several the lowest, or the highest if early is True."""
    chart = sound_chart(graph)
    high, low = need_bounds(chart, pins)
    counts = counts_at(chart, profile, hold)
    return placement_of(chart, chosen(Choice(chart, high, low, counts, hold), early is True))


def pinned_cost(graph, node, slot, *, profile=None, hold=HOLD):
    """What the cheapest placement costs that has this node in this slot."""
    chart = sound_chart(graph)
    high, low = need_bounds(chart, ((node, slot),))
    counts = counts_at(chart, profile, hold)
    return price_of(chart, chosen(Choice(chart, high, low, counts, hold), False), counts, hold)
