"""Papers that show by tolls that no legal placement costs less."""

from seaplace.bits import bits_of
from seaplace.charts import STILL, reach_of, steps_between
from seaplace.choices import Choice, chosen, flows_of
from seaplace.costs import COSTS, counts_at, price_of
from seaplace.errors import BadPaper
from seaplace.facts import has_slot
from seaplace.parts import is_tuple_of
from seaplace.placements import need_stands, placement_of
from seaplace.ranges import sound_chart
from seaplace.words import HOLD, is_among

MOST_TOLL = 99999999


def toll_paper(graph, *, profile=None, hold=HOLD):
    """A right paper: the placement that costs least, and tolls that show what it costs."""
    chart = sound_chart(graph)
    counts = counts_at(chart, profile, hold)
    choice = Choice(chart, chart.early, chart.late, counts, hold)
    flows = flows_of(choice)
    tolls = [(node, user, chart.slots[at], flows[(node, user, at)]) for node, user, at in sorted(flows)]
    return (placement_of(chart, chosen(choice, False)), tuple([row for row in tolls if row[3] != 0]))


def under_marks(chart, node):
    """The slots below the earliest one of a live node."""
    own = chart.early[node]
    return chart.under[own] ^ 1 << own


def sure_marks(chart, node):
    """The slots in which a live node is held wherever its users stand, if it stands above them."""
    return reach_of(chart, chart.early, node) & under_marks(chart, node)


def is_toll_row(chart, row):
    """Whether a row tells of a node, one that uses it, a slot in which it may be held for that one, and a toll."""
    if not is_tuple_of(row, 4, 4):
        return False
    node, user, slot, toll = row
    for one in (node, user):
        if not is_among(one, 0, len(chart.nodes) - 1):
            return False
    if user not in chart.users[node] or not has_slot(chart.deeds, slot):
        return False
    number = chart.number[slot]
    if not under_marks(chart, node) & chart.over[chart.late[user]] & 1 << number:
        return False
    return is_among(toll, -MOST_TOLL, MOST_TOLL) and toll != 0 and is_on_side(chart, node, number, toll)


def is_on_side(chart, node, number, toll):
    """Whether a slot of a node may have a toll above 0, or one below."""
    if toll < 0:
        return not sure_marks(chart, node) >> number & 1
    return chart.nodes[node][0] not in STILL and chart.over[chart.late[node]] >> number & 1 == 1


def need_tolls(chart, tolls, prices):
    """A list of rows with the slots' numbers; BadPaper of no tuple, or of the first row that can't stand."""
    if not isinstance(tolls, tuple):
        raise BadPaper(None)
    found = []
    below = {}
    for place, row in enumerate(tolls):
        if not is_toll_row(chart, row):
            raise BadPaper(place)
        node, user, slot, toll = row
        number = chart.number[slot]
        if found and found[-1][:3] >= (node, user, number):
            raise BadPaper(place)
        if toll < 0:
            below[(node, number)] = below.get((node, number), 0) - toll
            if below[(node, number)] > prices[number]:
                raise BadPaper(place)
        found.append((node, user, number, toll))
    return found


def least_of(chart, node, counts, gains):
    """The least, by the slots in which a floating node may stand, of its cost there and what is gained above it."""
    cost = COSTS[chart.nodes[node][0]]
    steps = steps_between(chart, chart.early[node], chart.late[node])
    total = sum([gains.get(number, 0) for number in bits_of(chart.over[steps[0]])])
    found = []
    for number in steps:
        if found:
            total += gains.get(number, 0)
        found.append(cost * counts[number] + total)
    return min(found)


def shown_by(chart, rows, counts, prices):
    """What tolls show."""
    gains = [{} for _ in chart.nodes]
    total = 0
    for node in chart.live:
        for number in bits_of(sure_marks(chart, node)):
            total += prices[number]
            gains[node][number] = -prices[number]
    for node, user, number, toll in rows:
        gains[node][number] = gains[node].get(number, 0) + toll
        gains[user][number] = gains[user].get(number, 0) - toll
    return total + sum([least_of(chart, node, counts, gains[node]) for node in chart.floats])


def toll_bound(graph, tolls, *, profile=None, hold=HOLD):
    """What tolls show: a number that no legal placement costs less than."""
    chart = sound_chart(graph)
    counts = counts_at(chart, profile, hold)
    prices = [count * hold for count in counts]
    return shown_by(chart, need_tolls(chart, tolls, prices), counts, prices)


def check_tolls(graph, paper, *, profile=None, hold=HOLD):
    """What the placement of a paper costs, if its tolls show that none costs less; else BadPaper."""
    chart = sound_chart(graph)
    if not is_tuple_of(paper, 2, 2):
        raise BadPaper(None)
    stands = need_stands(chart, paper[0])
    counts = counts_at(chart, profile, hold)
    prices = [count * hold for count in counts]
    rows = need_tolls(chart, paper[1], prices)
    cost = price_of(chart, stands, counts, hold)
    if shown_by(chart, rows, counts, prices) < cost:
        raise BadPaper(len(rows))
    return cost
