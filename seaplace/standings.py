"""What a unit stands at: a sound graph, counts, pins by which a placement is legal, and a hold."""

from seaplace.cheapest import high_slots, is_in_range, low_slots, need_bounds
from seaplace.choices import Choice, chosen
from seaplace.costs import need_hold, need_profile
from seaplace.errors import Pinned
from seaplace.facts import names_in
from seaplace.ranges import sound_chart
from seaplace.unittext import unit_text


class Standing:
    """All that a unit tells of; it isn't changed any more: a deed makes another one."""

    def __init__(self, chart, counts, pins, hold):
        self.chart = chart
        self.graph = chart.graph
        self.counts = counts
        self.pins = pins
        self.hold = hold


def all_of(standing):
    """What it tells, a tuple: two that stand at the same are equal in this."""
    return (standing.graph, standing.counts, standing.pins, standing.hold)


def text_of(standing):
    """The text of a unit that stands at this."""
    return unit_text(standing.graph, standing.counts, standing.pins, standing.hold)


def first_standing(graph, profile, pins, hold):
    """What a new unit stands at; refused as the cheapest placement of all this is."""
    chart = sound_chart(graph)
    need_bounds(chart, pins)
    counts = need_profile(graph, profile)
    need_hold(hold)
    return Standing(chart, counts, tuple([(node, (slot[0], slot[1])) for node, slot in pins]), hold)


def bounds_of(chart, pins):
    """Two lists, by nodes, of the highest and the lowest slots with good pins."""
    pinned = {node: chart.number[slot] for node, slot in pins}
    return (high_slots(chart, pinned), low_slots(chart, pinned))


def kept_pins(chart, pins):
    """Those of these pins, a tuple, whose nodes float, or Pinned where they can't be kept."""
    kept = tuple([pin for pin in pins if pin[0] in chart.floats])
    for node, slot in kept:
        if not is_in_range(chart, node, slot):
            raise Pinned(node)
    high, low = bounds_of(chart, kept)
    for node in chart.floats:
        if high[node] > low[node]:
            raise Pinned(node)
    return kept


def with_graph(standing, graph, counts, pins):
    """What comes where a graph, counts and pins are others; BadGraph, Unsound, then Pinned."""
    chart = sound_chart(graph)
    ordered = {name: counts[name] for name in names_in(graph)}
    return Standing(chart, ordered, kept_pins(chart, pins), standing.hold)


def with_pins(standing, pins):
    """What comes where pins are others; Pinned."""
    return Standing(standing.chart, standing.counts, kept_pins(standing.chart, pins), standing.hold)


def counts_by(standing):
    """A list, by slots, of the count of each."""
    return [standing.counts[name] for name, _ in standing.chart.slots]


def cheapest_stands(standing, early):
    """A list, by nodes, of where they stand by the placement that costs least."""
    chart = standing.chart
    high, low = bounds_of(chart, standing.pins)
    return chosen(Choice(chart, high, low, counts_by(standing), standing.hold), early)
