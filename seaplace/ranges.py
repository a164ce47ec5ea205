"""From where to where each node may stand, and whether each has a slot."""

from seaplace.charts import STILL, Chart
from seaplace.errors import NoNode, Unsound
from seaplace.graphs import need_graph
from seaplace.words import is_among


def chart_of(graph):
    """The chart of a graph; BadGraph of what is none."""
    need_graph(graph)
    return Chart(graph)


def sound_chart(graph):
    """The chart of a sound graph; BadGraph, then Unsound."""
    chart = chart_of(graph)
    node = unsound_node(chart)
    if node is not None:
        raise Unsound(node)
    return chart


def is_over_all(chart, number, slots):
    """Whether a slot dominates all these."""
    return all([chart.over[one] >> number & 1 for one in slots])


def unsound_node(chart):
    """The least floating node that lacks its earliest or latest slot, or live phi that doesn't fit; None of none."""
    for node in chart.live:
        if chart.nodes[node][0] not in STILL:
            if chart.early[node] is None or chart.late[node] is None:
                return node
        elif not is_over_all(chart, chart.own[node], chart.fixed[node]):
            return node
    return None


def need_floating(chart, node):
    """None, or NoNode of what is no floating node's number."""
    if not is_among(node, 0, len(chart.nodes) - 1) or node not in chart.floats:
        raise NoNode(node)


def slot_at(chart, number):
    """The slot of a number, None of None."""
    if number is None:
        return None
    return chart.slots[number]


def order_of(graph):
    """The floating nodes: again and again the least one all of whose floating inputs stand ahead."""
    return tuple(chart_of(graph).order)


def earliest(graph, node):
    """The highest slot in which a floating node may stand, or None."""
    chart = chart_of(graph)
    need_floating(chart, node)
    return slot_at(chart, chart.early[node])


def latest(graph, node):
    """The lowest slot in which a floating node may stand, or None."""
    chart = chart_of(graph)
    need_floating(chart, node)
    return slot_at(chart, chart.late[node])


def ranges_by(chart, high, low):
    """A tuple of each floating node, rising, and its slots by two lists of numbers."""
    return tuple([(node, slot_at(chart, high[node]), slot_at(chart, low[node])) for node in chart.floats])


def ranges(graph):
    """Each floating node, rising, with its earliest and latest slots, None where there is none."""
    chart = chart_of(graph)
    return ranges_by(chart, chart.early, chart.late)


def is_sound(graph):
    """Whether each node has a slot."""
    return unsound_node(chart_of(graph)) is None


def need_sound(graph):
    """None, or Unsound of the least node without a slot."""
    sound_chart(graph)
