"""What a machine does that reckons each node where it stands by a placement."""

from seaplace.charts import DIVIDES
from seaplace.costs import COSTS, held_marks, need_hold
from seaplace.needs import need_given, need_most
from seaplace.operations import reckoned
from seaplace.placements import need_stands
from seaplace.ranges import sound_chart
from seaplace.registers import REGISTERS
from seaplace.runs import Run, result_of, run_by_demand, run_on
from seaplace.words import CELLS, HOLD, MOST, STEPS


class Machine(Run):
    """A run in registers, of which a list tells the number by nodes; its rows are (NAME, PHIS, DONE)."""

    def __init__(self, chart, given, stands, numbers):
        Run.__init__(self, chart, given)
        self.stands = stands
        self.numbers = numbers
        self.here = nodes_at(chart, stands)
        self.come = [0] * len(chart.slots)
        self.done = []
        self.registers = [0] * REGISTERS
        for node in chart.live:
            if chart.nodes[node][0] == "given":
                self.keep(node, self.given[chart.nodes[node][1]])

    def enter(self, name, phis):
        """Begins the visit of a block whose live phis are set so."""
        for node, word in phis:
            self.keep(node, word)
        self.done = []
        self.rows.append((name, phis, self.done))

    def come_to(self, slot):
        """Does the nodes that stand in a slot, up to a quotient by 0."""
        number = self.chart.number[slot]
        self.come[number] += 1
        for node in self.here[number]:
            thing = self.chart.nodes[node]
            if thing[0] in DIVIDES and self.word(thing[2]) == 0:
                self.way = ("divided", node)
                return
            word = self.made(thing)
            self.keep(node, word)
            self.done.append((node, word))

    def made(self, thing):
        """The word that a node makes of its inputs' registers, or of the memory, as they are now."""
        if thing[0] == "word":
            return thing[1]
        if thing[0] == "load":
            return self.cells[thing[1]][self.word(thing[2]) % CELLS]
        return reckoned(thing[0], [self.word(one) for one in thing[1:]])

    def keep(self, node, word):
        """Puts a word into a node's register."""
        self.registers[self.numbers[node]] = word

    def word(self, node):
        """The word in a node's register."""
        return self.registers[self.numbers[node]]


def nodes_at(chart, stands):
    """A list, by slots, of the nodes, in order, that stand in each."""
    found = [[] for _ in chart.slots]
    for node in chart.order:
        found[stands[node]].append(node)
    return found


def placed_run(graph, placement, given, most):
    """The run of a legal placement; Unsound, BadPlacement, BadGiven, then OutOfPlace of no such most."""
    chart = sound_chart(graph)
    stands = need_stands(chart, placement)
    need_given(given)
    need_most(most, MOST)
    # No two nodes have the same register.
    machine = Machine(chart, given, stands, list(range(len(chart.nodes))))
    run_on(machine, most)
    return machine


def run_placed(graph, placement, given=(), *, most=STEPS):
    """The words put out by a run of a placement, and how it ends, a pair."""
    return result_of(placed_run(graph, placement, given, most))


def placed_trace(graph, placement, given=(), *, most=STEPS):
    """For each block entered its name, the words of its live phis, and what was done there."""
    machine = placed_run(graph, placement, given, most)
    return tuple([(name, phis, tuple(done)) for name, phis, done in machine.rows])


def held_many(machine):
    """A list, by slots, of how many words are held in each."""
    chart = machine.chart
    held = [held_marks(chart, machine.stands, node) for node in chart.live]
    return [len([marks for marks in held if marks >> number & 1]) for number in range(len(chart.slots))]


def work_of(graph, placement, given=(), *, hold=HOLD, most=STEPS):
    """What is paid in a run of a placement: for each node done, and for each word held in each slot come to."""
    machine = placed_run(graph, placement, given, most)
    need_hold(hold)
    nodes = machine.chart.nodes
    total = sum([COSTS[nodes[node][0]] for _, _, done in machine.rows for node, _ in done])
    return total + hold * sum([times * many for times, many in zip(machine.come, held_many(machine))])


def speculated(graph, placement, given=(), *, most=STEPS):
    """The nodes, rising, that are done in some visit of a run of a placement, and asked for in none."""
    machine = placed_run(graph, placement, given, most)
    asked = {}
    for _, _, words, _ in run_by_demand(machine.chart, given, most).rows:
        asked.update(words)
    done = {node: True for _, _, rows in machine.rows for node, _ in rows}
    return tuple(sorted([node for node in done if node not in asked]))
