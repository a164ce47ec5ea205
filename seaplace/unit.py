"""A unit: a graph, counts, pins and a hold that are kept while they change deed by deed."""

from seaplace.alike import classes_in
from seaplace.costs import price_of
from seaplace.errors import GraphError, MissError, Nothing, UnsoundError
from seaplace.lives import Basis, Lives, fullest
from seaplace.needs import need_given, need_most
from seaplace.placements import placement_of
from seaplace.ranges import ranges_by
from seaplace.runs import result_of, run_by_demand
from seaplace.standings import all_of, bounds_of, cheapest_stands, counts_by, first_standing, text_of
from seaplace.unitdeeds import Attempt, do_many, do_one
from seaplace.words import HOLD, MOST, STEPS

# A graph of nothing but what each has.
BARE = ((("entry", (), ("return", 0)),), (("word", 0),))


def attempt_deed(attempt, word, things):
    """Does what a deed tells; several as one are a deed, too."""
    if word == "many":
        do_many(attempt, things[0])
    else:
        do_one(attempt, word, things)


def row_done(attempt, word):
    """The row of a deed that is done."""
    if word == "many":
        return (word, tuple(attempt.rows))
    return attempt.rows[0]


def do_deed(unit, word, things):
    """Does a deed whole, or refuses it; the log tells of both."""
    attempt = Attempt(unit.standing)
    unit.begun += 1
    unit.notes.append(("begun", unit.begun))
    unit.at_work = True
    try:
        attempt_deed(attempt, word, things)
    except (GraphError, MissError, UnsoundError):
        unit.at_work = False
        unit.notes.append(("refused", unit.begun, len(attempt.rows)))
        raise
    unit.past.append((row_done(attempt, word), unit.standing))
    unit.back = []
    unit.standing = attempt.standing
    unit.at_work = False
    unit.notes.append(("done", unit.begun))


class Unit:
    """A sound graph, counts, pins by which a placement is legal, and a hold; and the deeds done since it is there."""

    def __init__(self, graph=None, *, profile=None, pins=(), hold=HOLD):
        if graph is None:
            graph = BARE
        self.standing = first_standing(graph, profile, pins, hold)
        self.past = []
        self.back = []
        self.notes = []
        self.begun = 0
        self.at_work = False

    def put_node(self, node, thing):
        """Puts a thing in the place of a node."""
        do_deed(self, "put_node", (node, thing))

    def add_node(self, thing):
        """Adds a node behind all."""
        do_deed(self, "add_node", (thing,))

    def add_deed(self, block, deed, at=None):
        """Adds a deed to a block, ahead of one of its deeds or at the end."""
        do_deed(self, "add_deed", (block, deed, at))

    def drop_deed(self, block, at):
        """Takes a deed from a block."""
        do_deed(self, "drop_deed", (block, at))

    def set_end(self, block, end):
        """Gives a block another END."""
        do_deed(self, "set_end", (block, end))

    def split_edge(self, block, to, name):
        """Puts a block between two."""
        do_deed(self, "split_edge", (block, to, name))

    def set_count(self, block, count):
        """Gives a block another count."""
        do_deed(self, "set_count", (block, count))

    def set_hold(self, hold):
        """Sets another hold."""
        do_deed(self, "set_hold", (hold,))

    def pin(self, node, slot):
        """Pins a node, also where it is pinned elsewhere."""
        do_deed(self, "pin", (node, slot))

    def unpin(self, node):
        """Takes a node's pin away."""
        do_deed(self, "unpin", (node,))

    def merge(self):
        """Merges the graph."""
        do_deed(self, "merge", ())

    def fold(self):
        """Folds the graph."""
        do_deed(self, "fold", ())

    def tidy(self):
        """Tidies the graph."""
        do_deed(self, "tidy", ())

    def many(self, deeds):
        """Does deeds, told as tuples, one behind the other: all of them, or none."""
        do_deed(self, "many", (deeds,))

    def undo(self):
        """Takes back the last deed that stands."""
        if not self.past:
            raise Nothing("no deed stands")
        row, standing = self.past.pop()
        self.back.append((row, self.standing))
        self.standing = standing

    def redo(self):
        """Does again what was taken back last."""
        if not self.back:
            raise Nothing("nothing is taken back that can be done again")
        row, standing = self.back.pop()
        self.past.append((row, self.standing))
        self.standing = standing

    def graph(self):
        """The graph."""
        return self.standing.graph

    def profile(self):
        """A dict of the blocks' names, in order, and their counts."""
        return dict(self.standing.counts)

    def pins(self):
        """The pins."""
        return self.standing.pins

    def hold(self):
        """The hold."""
        return self.standing.hold

    def ranges(self):
        """Each floating node, rising, with the highest and the lowest slot in which it may stand."""
        high, low = bounds_of(self.standing.chart, self.standing.pins)
        return ranges_by(self.standing.chart, high, low)

    def placement(self, *, early=False):
        """The placement that costs least: of several the lowest, or the highest if early is True."""
        return placement_of(self.standing.chart, cheapest_stands(self.standing, early is True))

    def cost(self):
        """What the placement costs that costs least."""
        standing = self.standing
        return price_of(standing.chart, cheapest_stands(standing, False), counts_by(standing), standing.hold)

    def run(self, given=(), *, most=STEPS):
        """The words put out by a run, and how it ends, a pair."""
        need_given(given)
        need_most(most, MOST)
        return result_of(run_by_demand(self.standing.chart, given, most))

    def classes(self):
        """The classes of nodes that are alike."""
        return classes_in(self.standing.chart)

    def registers(self):
        """How many registers hold all words by the placement that costs least."""
        return fullest(Lives(Basis(self.standing.chart), cheapest_stands(self.standing, False)))[1]

    def deeds(self):
        """A list of the deeds that stand: their names, and what was handed in."""
        return [row for row, _ in self.past]

    def log(self):
        """A list of what was begun, done and refused."""
        return list(self.notes)

    def busy(self):
        """Whether a deed is being done."""
        return self.at_work

    def copied(self):
        """A unit like this one, which goes on by itself."""
        unit = Unit()
        unit.standing = self.standing
        unit.past = list(self.past)
        unit.back = list(self.back)
        unit.notes = list(self.notes)
        unit.begun = self.begun
        return unit

    def __eq__(self, other):
        if not isinstance(other, Unit):
            return False
        return all_of(self.standing) == all_of(other.standing)

    def __len__(self):
        return len(self.past)

    def __str__(self):
        return str(text_of(self.standing))
