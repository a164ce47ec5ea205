"""Papers that show, by two placements and a reason for each slot, from where to where nodes may stand."""

from seaplace.bits import first_bit, last_bit
from seaplace.charts import DIVIDES, uses_of
from seaplace.errors import BadPaper
from seaplace.facts import has_slot
from seaplace.parts import is_tuple_of
from seaplace.placements import need_stands, placement_of
from seaplace.ranges import chart_of, is_over_all, ranges_by, sound_chart
from seaplace.words import is_among, is_whole


def range_paper(graph):
    """A right range paper; Unsound where no placement is legal."""
    chart = sound_chart(graph)
    reasons = tuple([(node, reason_up(chart, node), reason_down(chart, node)) for node in chart.floats])
    return (placement_of(chart, chart.early), placement_of(chart, chart.late), reasons)


def reason_up(chart, node):
    """Why a node stands no higher than its earliest slot."""
    own = chart.early[node]
    if own == 0:
        return "first"
    for one in chart.inputs[node]:
        if chart.early[one] == own:
            return ("input", one)
    if chart.nodes[node][0] == "load":
        return "version"
    return "guard"


def reason_down(chart, node):
    """Why a node stands no lower than its latest slot."""
    own = chart.late[node]
    rows = chart.fixed[node] + chart.users[node]
    slots = uses_of(chart, chart.late, node)
    # On the chain of one use the meets with the others lie: the highest of them is the meet of all.
    meets = [last_bit(chart.over[slots[0]] & chart.over[slot]) for slot in slots]
    if min(meets) != own:
        behind = chart.over[slots[0]] >> own + 1
        return ("version", chart.slots[own + 1 + first_bit(behind)])
    at = meets.index(own)
    pair = [rows[0], rows[at]]
    many = len(chart.fixed[node])
    if many > 0:
        pair[0] = chart.slots[rows[0]]
    if at < many:
        pair[1] = chart.slots[rows[at]]
    return tuple(pair)


def is_up(chart, early, node, reason):
    """Whether this is why a node stands no higher than in its slot by an early placement."""
    own = early[node]
    thing = chart.nodes[node]
    if is_tuple_of(reason, 2, 2):
        if not isinstance(reason[0], str) or reason[0] != "input" or not is_whole(reason[1]):
            return False
        return reason[1] in chart.inputs[node] and early[reason[1]] == own
    if not isinstance(reason, str):
        return False
    if reason == "first":
        return own == 0
    if reason == "version":
        return thing[0] == "load" and chart.slots[own] == thing[3]
    if reason != "guard" or thing[0] not in DIVIDES or thing[2] not in chart.guards:
        return False
    return chart.guards[thing[2]] & chart.over[own] == 1 << own


def is_down(chart, late, node, reason):
    """Whether this is why a node stands no lower than in its slot by a late placement."""
    if not is_tuple_of(reason, 1, 2):
        return False
    if isinstance(reason[0], str):
        return is_next_version(chart, late, node, reason)
    slots = [use_at(chart, late, node, use) for use in reason]
    if None in slots:
        return False
    return last_bit(chart.over[slots[0]] & chart.over[slots[-1]]) == late[node]


def use_at(chart, late, node, use):
    """The slot of a use of a node, told as a floating node or as the slot of a fixed one; None of what is none."""
    if is_among(use, 0, len(chart.nodes) - 1):
        if use in chart.users[node]:
            return late[use]
    elif has_slot(chart.deeds, use) and chart.number[use] in chart.fixed[node]:
        return chart.number[use]
    return None


def is_next_version(chart, late, node, reason):
    """Whether another version, told behind the word, begins right behind a load's slot and ahead of all its uses."""
    if chart.nodes[node][0] != "load" or len(reason) != 2 or reason[0] != "version":
        return False
    if not has_slot(chart.deeds, reason[1]) or reason[1] == chart.nodes[node][3]:
        return False
    number = chart.number[reason[1]]
    if not chart.begun[chart.nodes[node][1]] >> number & 1 or chart.ahead[number] != late[node]:
        return False
    return is_over_all(chart, number, uses_of(chart, late, node))


def is_reason(chart, early, late, node, row):
    """Whether a row is this node's, and tells why it stands neither higher nor lower."""
    if not is_tuple_of(row, 3, 3) or not is_whole(row[0]) or row[0] != node:
        return False
    return is_up(chart, early, node, row[1]) and is_down(chart, late, node, row[2])


def check_ranges(graph, paper):
    """Each floating node, rising, with its earliest and latest slots, as a paper shows them; else BadPaper."""
    chart = chart_of(graph)
    if not is_tuple_of(paper, 3, 3) or not isinstance(paper[2], tuple):
        raise BadPaper(None)
    early = need_stands(chart, paper[0])
    late = need_stands(chart, paper[1])
    for number, node in enumerate(chart.floats):
        if number >= len(paper[2]) or not is_reason(chart, early, late, node, paper[2][number]):
            raise BadPaper(number)
    if len(paper[2]) > len(chart.floats):
        raise BadPaper(len(chart.floats))
    return ranges_by(chart, early, late)
