"""A good graph in numbers: its slots by their numbers, and what its live nodes ask for.

Each slot has a greater number than all that dominate it, the entry's first one has 0. Several slots together are a
whole number in which their bits are set: so those that dominate two slots are over[one] & over[other], and the
lowest of these is the highest bit.
"""

from seaplace.bits import bits_of, first_bit, last_bit
from seaplace.facts import deeds_in, entry_of, live_in, predecessors_in, reached_in, uses_in, ways_in
from seaplace.guards import guards_in
from seaplace.parts import asked_by
from seaplace.trees import tree_in
from seaplace.versions import versions_in
from seaplace.words import REGIONS

STILL = ("phi", "given")
DIVIDES = ("div", "rest")


def slots_by_tree(graph):
    """All slots, each behind those that dominate it."""
    deeds = deeds_in(graph)
    # Whichever way a block is found from the entry, those that dominate it are found ahead of it.
    found = reached_in(ways_in(graph), entry_of(graph), ())
    return tuple([(name, place) for name in found for place in range(len(deeds[name]) + 1)])


def slots_ahead(graph, slots, number):
    """A list, by slots, of the slot right ahead of each on its chain; None of the first."""
    deeds = deeds_in(graph)
    tree = tree_in(graph)
    found = []
    for name, place in slots:
        if place > 0:
            found.append(number[(name, place - 1)])
        elif name in tree:
            found.append(number[(tree[name], len(deeds[tree[name]]))])
        else:
            found.append(None)
    return found


def over_slots(ahead):
    """A list, by slots, of all that dominate each, itself too."""
    found = [1]
    for number in range(1, len(ahead)):
        found.append(found[ahead[number]] | 1 << number)
    return found


def under_slots(ahead):
    """A list, by slots, of all that each dominates, itself too."""
    found = [1 << number for number in range(len(ahead))]
    for number in range(len(ahead) - 1, 0, -1):
        found[ahead[number]] = found[ahead[number]] | found[number]
    return found


def users_by(inputs, floats):
    """A list, by nodes, of the floating nodes, rising, that have each among their inputs."""
    found = [[] for _ in inputs]
    for node in floats:
        for one in sorted(set(inputs[node])):
            found[one].append(node)
    return found


def order_by(users, floats):
    """The floating nodes, a list: again and again the least one all of whose floating inputs stand ahead."""
    lacking = [0] * len(users)
    for node in floats:
        for user in users[node]:
            lacking[user] += 1
    ready = sum([1 << node for node in floats if lacking[node] == 0])
    found = []
    while ready:
        node = first_bit(ready)
        ready = ready ^ 1 << node
        found.append(node)
        for user in users[node]:
            lacking[user] -= 1
            if lacking[user] == 0:
                ready = ready | 1 << user
    return found


class Chart:
    """What of a good graph is told in numbers, all lists by nodes or slots."""

    def __init__(self, graph):
        self.graph = graph
        self.nodes = graph[1]
        self.deeds = deeds_in(graph)
        self.slots = slots_by_tree(graph)
        self.number = {slot: number for number, slot in enumerate(self.slots)}
        self.ahead = slots_ahead(graph, self.slots, self.number)
        self.over = over_slots(self.ahead)
        self.under = under_slots(self.ahead)
        self.live = live_in(graph)
        self.floats = tuple([node for node in self.live if self.nodes[node][0] not in STILL])
        self.inputs = [asked_by(thing) for thing in self.nodes]
        self.users = users_by(self.inputs, self.floats)
        self.order = order_by(self.users, self.floats)
        self.own = [own_slot(self, thing) for thing in self.nodes]
        self.fixed = fixed_slots(self)
        self.begun = [begun_slots(self, region) for region in range(REGIONS)]
        self.guards = guard_slots(self)
        self.allowed = [allowed_slots(self, node) for node in range(len(self.nodes))]
        self.late = late_slots(self)
        self.early = early_slots(self)


def own_slot(chart, thing):
    """Where a phi or a given stands; None of another node."""
    if thing[0] == "phi":
        return chart.number[(thing[1], 0)]
    if thing[0] == "given":
        return 0
    return None


def fixed_slots(chart):
    """A list, by nodes, of the slots, rising, of the fixed uses of each."""
    found = [[] for _ in chart.nodes]
    for slot, node in uses_in(chart.graph):
        found[node].append(chart.number[slot])
    return [sorted(rows) for rows in found]


def begun_slots(chart, region):
    """The slots in which versions of a region begin; of none where no floating node loads from it."""
    if not any([chart.nodes[node][:2] == ("load", region) for node in chart.floats]):
        return 0
    return sum([1 << chart.number[slot] for slot in versions_in(chart.graph, region)])


def guard_slots(chart):
    """A dict of the nodes by which floating ones divide, but words other than 0, and their guards."""
    found = {}
    for node in chart.floats:
        thing = chart.nodes[node]
        if thing[0] in DIVIDES and thing[2] not in found and not is_sure(chart.nodes[thing[2]]):
            found[thing[2]] = sum([1 << chart.number[slot] for slot in guards_in(chart.graph, thing[2])])
    return found


def is_sure(thing):
    """Whether a node is a word other than 0."""
    return thing[0] == "word" and thing[1] != 0


def allowed_slots(chart, node):
    """The slots in which a floating load's version is current, a div's or rest's second input guarded."""
    everywhere = chart.under[0]
    thing = chart.nodes[node]
    if node not in chart.floats:
        return everywhere
    if thing[0] == "load":
        return version_slots(chart, thing[1], chart.number[thing[3]])
    if thing[0] in DIVIDES and thing[2] in chart.guards:
        marks = 0
        for number in bits_of(chart.guards[thing[2]]):
            marks = marks | chart.under[number]
        return marks
    return everywhere


def version_slots(chart, region, version):
    """The slots in which a version of a region is current; none of what is no version."""
    begun = chart.begun[region]
    if not begun >> version & 1:
        return 0
    marks = chart.under[version]
    for number in bits_of(begun & marks):
        if number != version:
            marks = marks & (chart.under[0] ^ chart.under[number])
    return marks


def late_slots(chart):
    """A list, by nodes, of the latest slot of each floating node, or None."""
    found = [None] * len(chart.nodes)
    for node in reversed(chart.order):
        marks = chart.under[0]
        for number in chart.fixed[node]:
            marks = marks & chart.over[number]
        for user in chart.users[node]:
            marks = marks & marks_of(chart.over, found[user])
        if chart.nodes[node][0] == "load":
            marks = marks & chart.allowed[node]
        found[node] = last_bit(marks)
    return found


def early_slots(chart):
    """A list, by nodes, of the earliest slot of each floating node, or None; where the rest stands, of the others."""
    found = list(chart.own)
    for node in chart.order:
        marks = marks_of(chart.over, chart.late[node]) & chart.allowed[node]
        for one in chart.inputs[node]:
            marks = marks & marks_of(chart.under, found[one])
        found[node] = first_bit(marks)
    return found


def marks_of(table, number):
    """The slots that a table has of a slot; none of None."""
    if number is None:
        return 0
    return table[number]


def uses_of(chart, stands, node):
    """The slots, a list, of all uses of a node, fixed ones and those by floating nodes that stand so."""
    return chart.fixed[node] + [stands[user] for user in chart.users[node]]


def reach_of(chart, stands, node):
    """All slots that dominate one of the uses of a node, where floating nodes stand so."""
    marks = 0
    for number in uses_of(chart, stands, node):
        marks = marks | chart.over[number]
    return marks


def steps_between(chart, high, low):
    """The slots, a list, from a high one to a low one on its chain."""
    return bits_of(chart.over[low] & chart.under[high])


def phi_pairs(chart):
    """A dict, by edges, of the live phis of the block to which each goes and their inputs for it, pairs, rising."""
    found = {(name, way): [] for name, ways in ways_in(chart.graph).items() for way in ways}
    ahead = predecessors_in(chart.graph)
    for node in chart.live:
        thing = chart.nodes[node]
        if thing[0] == "phi":
            for name, one in zip(ahead[thing[1]], thing[2]):
                found[(name, thing[1])].append((node, one))
    return found
