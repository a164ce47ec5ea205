"""Runs of a sound graph: what all of them have in common, and those by demand."""

from seaplace.charts import phi_pairs
from seaplace.facts import ends_in
from seaplace.operations import reckoned
from seaplace.words import CELLS, GIVENS, REGIONS


class Run:
    """A run: its memory, a row for each visit, the words put out, and how it ended, None as long as it goes on.

    Each class below has word(node), enter(name, phis) at the head of a block, and come_to(slot).
    """

    def __init__(self, chart, given):
        self.chart = chart
        self.ends = ends_in(chart.graph)
        self.pairs = phi_pairs(chart)
        self.given = given + (0,) * (GIVENS - len(given))
        self.cells = [[0] * CELLS for _ in range(REGIONS)]
        self.rows = []
        self.outs = []
        self.way = None


class Demand(Run):
    """A run in which words are reckoned when they are asked for; its rows are (NAME, PHIS, WORDS, CELLS)."""

    def __init__(self, chart, given):
        Run.__init__(self, chart, given)
        self.kept = {}
        self.phis = {}
        self.words = {}

    def enter(self, name, phis):
        """Begins the visit of a block whose live phis are set so."""
        for node, word in phis:
            self.phis[node] = word
        self.words = {}
        self.rows.append((name, phis, self.words, tuple([tuple(row) for row in self.cells])))

    def come_to(self, slot):
        """Makes the versions that begin in a slot: loads of them find the cells as they are now."""
        number = self.chart.number[slot]
        for region in range(REGIONS):
            if self.chart.begun[region] >> number & 1:
                self.kept[(region, slot)] = tuple(self.cells[region])

    def word(self, node):
        """The word of a node in this visit, reckoned once."""
        if node not in self.words:
            thing = self.chart.nodes[node]
            if thing[0] == "word":
                self.words[node] = thing[1]
            elif thing[0] == "given":
                self.words[node] = self.given[thing[1]]
            elif thing[0] == "phi":
                self.words[node] = self.phis[node]
            else:
                self.words[node] = self.worked(node, thing)
        return self.words[node]

    def worked(self, node, thing):
        """The word that a node makes of its inputs' words."""
        words = [self.word(one) for one in self.chart.inputs[node]]
        if thing[0] == "load":
            return self.kept[(thing[1], thing[3])][words[0] % CELLS]
        return reckoned(thing[0], words)


def do_deed(run, name, place):
    """Does a deed of a block."""
    deed = run.chart.deeds[name][place]
    if deed[0] == "out":
        run.outs.append(run.word(deed[1]))
    elif deed[0] == "store":
        cell = run.word(deed[2]) % CELLS
        row = run.cells[deed[1]]
        row[cell] = run.word(deed[3])
    elif run.word(deed[1]) == 0:
        run.way = ("fault", name, place)


def go_through(run, name):
    """Comes to the slots of a block and does its deeds, up to a fault, or a quotient by 0."""
    last = len(run.chart.deeds[name])
    for place in range(last):
        run.come_to((name, place))
        if run.way is None:
            do_deed(run, name, place)
        if run.way is not None:
            return
    run.come_to((name, last))


def block_behind(run, name):
    """The block to which the END of one leads, or None where the run ends with a word."""
    end = run.ends[name]
    if end[0] == "goto":
        return end[1]
    word = run.word(end[1])
    if end[0] == "return":
        run.way = ("returned", word)
        return None
    if word != 0:
        return end[2]
    return end[3]


def run_on(run, most):
    """Lets a run enter blocks, at most so many, till it ends."""
    name = run.chart.slots[0][0]
    phis = ()
    while run.way is None:
        run.enter(name, phis)
        go_through(run, name)
        if run.way is None:
            behind = block_behind(run, name)
            if behind is not None and len(run.rows) == most:
                run.way = ("stopped",)
            elif behind is not None:
                phis = tuple([(node, run.word(one)) for node, one in run.pairs[(name, behind)]])
                name = behind


def run_by_demand(chart, given, most):
    """The run by demand of a sound graph by these words that enters at most so many blocks."""
    run = Demand(chart, given)
    run_on(run, most)
    return run


def result_of(run):
    """What a run has come to: the words put out, and how it ended."""
    return (tuple(run.outs), run.way)
