"""The choice among all legal placements between two as a net, whose cuts cost what the placements do.

A point (NODE, SLOT) is on the source's side of a cut where the node stands in the slot or below it. So an arc from
one such point to the next one of the same node is cut where the node stands between, and an arc from a user's point
to that of its input where the input stands above the slot and its word is held there for the user.
"""

from seaplace.bits import bits_of
from seaplace.charts import reach_of, steps_between
from seaplace.costs import COSTS
from seaplace.cuts import SINK, SOURCE, Net, cut_high, cut_low, fill

# More than any placement costs, so that no cut which costs least goes through such an arc.
ENDLESS = 1000000000


class Choice:
    """A net for all legal placements from a high one to a low one, by counts and prices of slots."""

    def __init__(self, chart, high, low, counts, hold):
        self.chart = chart
        self.high = high
        self.low = low
        self.counts = counts
        self.prices = [count * hold for count in counts]
        self.net = Net()
        self.points = {}
        self.bonds = {}
        self.holds = []
        for node in chart.floats:
            add_steps(self, node)
        for node in chart.floats:
            add_bonds(self, node)
        for node in chart.live:
            add_holds(self, node)
        fill(self.net)


def add_steps(choice, node):
    """Adds a point for each slot, but the highest one, in which a node may stand, and what it costs between."""
    steps = steps_between(choice.chart, choice.high[node], choice.low[node])
    cost = COSTS[choice.chart.nodes[node][0]]
    here = SOURCE
    for above, number in zip(steps, steps[1:]):
        there = choice.net.add_point()
        choice.points[(node, number)] = there
        choice.net.add_arc(here, there, cost * choice.counts[above], ENDLESS)
        here = there
    if here != SOURCE:
        choice.net.add_arc(here, SINK, cost * choice.counts[steps[-1]], 0)


def add_bonds(choice, node):
    """Adds arcs, one for each (NODE, USER, SLOT), by which no user of a node stands above it."""
    chart = choice.chart
    for number in steps_between(chart, choice.high[node], choice.low[node])[1:]:
        one = choice.points[(node, number)]
        for user in chart.users[node]:
            if (user, number) in choice.points:
                other = choice.points[(user, number)]
                choice.bonds[(node, user, number)] = choice.net.add_arc(one, other, ENDLESS, 0)


def add_holds(choice, node):
    """Adds what it costs to hold the word of a live node in each slot below its highest one, where it isn't free."""
    chart = choice.chart
    own = choice.high[node]
    below = chart.under[own] ^ 1 << own
    sure = reach_of(chart, choice.high, node) & below
    for number in bits_of(sure):
        if (node, number) in choice.points:
            choice.net.add_arc(SOURCE, choice.points[(node, number)], choice.prices[number], 0)
    free = {}
    for user in chart.users[node]:
        marks = chart.over[choice.low[user]] & below
        for number in bits_of(marks ^ (marks & sure)):
            free.setdefault(number, []).append(user)
    for number, askers in free.items():
        if choice.prices[number] > 0:
            hold_for(choice, node, number, askers)


def hold_for(choice, node, number, askers):
    """Adds what it costs to hold the word of a node in a slot for any of these users that stands in it or below."""
    price = choice.prices[number]
    target = choice.points.get((node, number), SINK)
    if len(askers) == 1:
        bond = choice.bonds.get((node, askers[0], number))
        if bond is None:
            add_hold(choice, (node, askers[0], number), target, price)
        else:
            room = choice.net.room
            room[bond ^ 1] += price
        return
    # However many users there are, the word is held once: what goes out from here is the price at most.
    shared = choice.net.add_point()
    choice.net.add_arc(shared, target, price, 0)
    for user in askers:
        add_hold(choice, (node, user, number), shared, ENDLESS)


def add_hold(choice, row, target, room):
    """Adds an arc from a user's point, the row telling (NODE, USER, SLOT)."""
    arc = choice.net.add_arc(choice.points[(row[1], row[2])], target, room, 0)
    choice.holds.append((row, arc, room))


def chosen(choice, early):
    """A list, by nodes, of where they stand by the placement that costs least: of several the highest or lowest."""
    if early:
        side = cut_high(choice.net)
    else:
        side = cut_low(choice.net)
    stands = list(choice.chart.own)
    for node in choice.chart.floats:
        stands[node] = choice.high[node]
        for number in steps_between(choice.chart, choice.high[node], choice.low[node])[1:]:
            if side[choice.points[(node, number)]]:
                stands[node] = number
    return stands


def flows_of(choice):
    """A dict by (NODE, USER, SLOT) of what flows from the node's point to its user's, less what flows back."""
    found = {row: ENDLESS - choice.net.room[arc] for row, arc in choice.bonds.items()}
    for row, arc, room in choice.holds:
        found[row] = found.get(row, 0) - room + choice.net.room[arc]
    return found
