"""Where words live by a placement: several nodes together are a whole number in which their bits are set."""

from seaplace.charts import phi_pairs
from seaplace.facts import ends_in, names_in, ways_in
from seaplace.parts import asked_by


class Basis:
    """What lives by any placement of a graph, dicts by names: what ENDs ask for, and the phis of each block."""

    def __init__(self, chart):
        self.chart = chart
        self.names = names_in(chart.graph)
        self.ways = ways_in(chart.graph)
        self.ends = end_marks(chart)
        self.phis = phi_marks(chart)
        self.asked = [marks_for(rows) for rows in chart.inputs]
        self.deeds = {name: [marks_for(asked_by(deed)) for deed in deeds] for name, deeds in chart.deeds.items()}


class Lives:
    """The rows of each block by a placement, and the nodes that are live at each of its points, dicts by names."""

    def __init__(self, basis, stands):
        self.basis = basis
        self.rows = rows_in(basis.chart, stands)
        self.live = live_marks(basis, self.rows)


def rows_in(chart, stands):
    """A dict of each block's rows: slot by slot the nodes that stand there, in order, then the slot's deed."""
    here = {slot: [] for slot in chart.slots}
    for node in chart.order:
        here[chart.slots[stands[node]]].append(("node", node))
    found = {}
    for name, deeds in chart.deeds.items():
        rows = []
        for place in range(len(deeds)):
            rows.extend(here[(name, place)])
            rows.append(("deed", place))
        found[name] = tuple(rows + here[(name, len(deeds))])
    return found


def marks_for(nodes):
    """The bits of nodes."""
    marks = 0
    for node in nodes:
        marks = marks | 1 << node
    return marks


def end_marks(chart):
    """A dict of the nodes that each block's END asks for, the inputs of live phis for its edges among them."""
    found = {name: marks_for(asked_by(end)) for name, end in ends_in(chart.graph).items()}
    for (name, _), pairs in phi_pairs(chart).items():
        found[name] = found[name] | marks_for([one for _, one in pairs])
    return found


def phi_marks(chart):
    """A dict of each block's live phis."""
    found = {name: 0 for name in chart.deeds}
    for node in chart.live:
        if chart.nodes[node][0] == "phi":
            name = chart.nodes[node][1]
            found[name] = found[name] | 1 << node
    return found


def steps_back(basis, name, rows):
    """What the rows of a block, the last one first, ask for and make, pairs."""
    found = []
    for kind, number in reversed(rows):
        if kind == "node":
            found.append((basis.asked[number], 1 << number))
        else:
            found.append((basis.deeds[name][number], 0))
    return found


def ahead_of(marks, steps):
    """The nodes live at each point of a block, a list, where these are at its last one and these are the steps back."""
    found = [marks]
    for asked, made in steps:
        marks = asked | (marks | made) ^ made
        found.append(marks)
    found.reverse()
    return found


def live_marks(basis, rows):
    """A dict of each block and the nodes live at each of its points, a list."""
    steps = {name: steps_back(basis, name, rows[name]) for name in rows}
    found = {name: ahead_of(basis.ends[name], steps[name]) for name in rows}
    changed = True
    while changed:
        changed = False
        # From behind: what a block leads to is mostly looked at ahead of it.
        for name in reversed(basis.names):
            marks = basis.ends[name]
            for way in basis.ways[name]:
                marks = marks | (found[way][0] | basis.phis[way]) ^ basis.phis[way]
            if marks != found[name][-1]:
                found[name] = ahead_of(marks, steps[name])
                changed = True
    return found


def how_many(marks):
    """How many nodes these are."""
    figures = f"{marks:b}"
    return figures.count("1")


def fullest(lives):
    """The first point, of blocks in their order, at which most nodes are live, and how many these are."""
    best = None
    most = -1
    for name in lives.basis.names:
        for place, marks in enumerate(lives.live[name]):
            many = how_many(marks)
            if many > most:
                best = (name, place)
                most = many
    return (best, most)


def made_points(lives):
    """A dict of each live node and the point at which it is made, blocks ahead of those that they dominate."""
    chart = lives.basis.chart
    blocks = [slot[0] for slot in chart.slots if slot[1] == 0]
    found = {}
    for name in blocks:
        for node in chart.live:
            if chart.own[node] == chart.number[(name, 0)]:
                found[node] = (name, 0)
        for place, (kind, number) in enumerate(lives.rows[name]):
            if kind == "node":
                found[number] = (name, place + 1)
    return found
