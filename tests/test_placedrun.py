import random
import unittest

from growing import grown
from making import BARE, LEAST, LOOPED, STEADY, TALL
from odd import odd_things
from running import ByWords, by_table, some_words
from test_demand import STORING, one_block
from test_placements import EARLY, with_slot
from trying import COSTS, Trial, refusal

from seaplace.cheapest import cheapest
from seaplace.costs import cost_of
from seaplace.demand import run, trace
from seaplace.placedrun import placed_trace, run_placed, speculated, work_of
from seaplace.placements import early_placement, late_placement, nth_placement
from seaplace.profiles import counts_of

# The quotient stands ahead of the branch by the early placement, though it is asked for on one way alone.
HASTY = (
    (
        ("top", (("check", 1),), ("if", 2, "left", "right")),
        ("left", (("out", 3),), ("goto", "foot")),
        ("right", (("out", 4),), ("goto", "foot")),
        ("foot", (), ("return", 5)),
    ),
    (("given", 0), ("given", 1), ("given", 2), ("div", 0, 1), ("rest", 0, 1), ("phi", "foot", (3, 0))),
)


def some_placements(graph, chance):
    """The highest, the lowest, and one between."""
    found = [early_placement(graph), late_placement(graph), cheapest(graph)]
    number = chance.randrange(1, 12)
    if refusal(nth_placement, graph, number) is None:
        found.append(nth_placement(graph, number))
    return found


class ByMachine:
    """The run of a placement by the words of the document."""

    def __init__(self, graph, placement, given, visits):
        self.trial = Trial(graph)
        self.graph = graph
        self.placed = dict(placement)
        self.given = (*given, 0, 0, 0, 0)
        self.words = {}
        self.cells = {}
        self.rows = []
        self.come = []
        for at, row in enumerate(visits):
            self.visit(row, at == len(visits) - 1)

    def visit(self, row, is_last):
        """Does what stands in the slots of a block, up to the deed that faults."""
        name = row[0]
        self.words.update(row[1])
        for node in self.trial.live:
            if self.trial.kinds[node] == "given":
                self.words[node] = self.given[self.graph[1][node][1]]
        done = []
        deeds = self.trial.deeds(name)
        for place in range(len(deeds) + 1):
            self.come.append((name, place))
            for node in self.trial.order():
                if self.placed[node] == (name, place):
                    self.words[node] = self.make(self.graph[1][node])
                    done.append((node, self.words[node]))
            if place < len(deeds):
                deed = deeds[place]
                if deed[0] == "check" and self.words[deed[1]] == 0:
                    assert is_last
                    break
                if deed[0] == "store":
                    self.cells[deed[1], self.words[deed[2]] % 8] = self.words[deed[3]]
        self.rows.append((name, row[1], tuple(done)))

    def make(self, thing):
        """The word that a node makes."""
        if thing[0] == "word":
            return thing[1]
        if thing[0] == "load":
            return self.cells.get((thing[1], self.words[thing[2]] % 8), 0)
        return by_table(thing[0], [self.words[node] for node in thing[1:]])

    def work(self, hold):
        """What is paid."""
        done = sum(COSTS[self.trial.kinds[node]] for _, _, rows in self.rows for node, _ in rows)
        held = [slot for node in self.trial.live for slot in self.trial.held(self.placed, node)]
        return done + hold * sum(held.count(slot) for slot in self.come)


class PlacedRuns(unittest.TestCase):
    def test_by_hand(self):
        early, late = early_placement(HASTY), late_placement(HASTY)
        self.assertEqual(early, ((3, ("top", 1)), (4, ("top", 1))))
        self.assertEqual(late, ((3, ("left", 0)), (4, ("right", 0))))
        told = run_placed(HASTY, early, (17, 5, 1))
        self.assertEqual(told, ((3,), ("returned", 3)))
        self.assertEqual(placed_trace(HASTY, early, (17, 5, 1)), (
            ("top", (), ((3, 3), (4, 2))), ("left", (), ()), ("foot", ((5, 3),), ()),
        ))
        self.assertEqual(placed_trace(graph=HASTY, placement=late, given=(17, 5, 0), most=9), (
            ("top", (), ()), ("right", (), ((4, 2),)), ("foot", ((5, 17),), ()),
        ))
        self.assertEqual(placed_trace(HASTY, early, (17,)), (("top", (), ()),))
        self.assertEqual(run_placed(HASTY, early, (17,)), ((), ("fault", "top", 0)))

    def test_speculated_by_hand(self):
        early, late = early_placement(HASTY), late_placement(HASTY)
        self.assertEqual(speculated(HASTY, early, (17, 5, 1)), (4,))
        self.assertEqual(speculated(HASTY, early, (17, 5, 0)), (3,))
        self.assertEqual(speculated(HASTY, early, (17, 5, 0), most=1), (3, 4))
        self.assertEqual(speculated(HASTY, early), ())
        for given in ((17, 5, 1), (17, 5, 0), ()):
            self.assertEqual(speculated(graph=HASTY, placement=late, given=given), ())

    def test_work_by_hand(self):
        early, late = early_placement(HASTY), late_placement(HASTY)
        # Held: the givens 0, 1, 2 in (top, 1), 0 in both slots of right, 3 in both of left, 4 in the first of right.
        self.assertEqual(work_of(HASTY, early, (17, 5, 1), hold=0), 18)
        self.assertEqual(work_of(HASTY, early, (17, 5, 1)), 18 + 3 + 2)
        self.assertEqual(work_of(HASTY, early, (17, 5, 0), hold=9), 18 + 9 * (3 + 2 + 1))
        self.assertEqual(work_of(HASTY, early, (), hold=9), 0)
        self.assertEqual(work_of(HASTY, late, (17, 5, 1), hold=2), 9 + 2 * (3 + 2 + 1))
        self.assertEqual(work_of(graph=HASTY, placement=late, given=(17, 5, 1), hold=1, most=1), 3)

    def test_slots_come_to_are_paid_up_to_a_fault(self):
        deeds = [("out", 1), ("check", 0), ("out", 1)]
        graph = one_block(deeds, ("return", 1), [("given", 0), ("word", 4), ("word", 3)])
        placement = ((1, ("a", 0)),)
        self.assertEqual(work_of(graph, placement, hold=5), 1 + 5 * 2)
        self.assertEqual(work_of(graph, placement, (1,), hold=5), 1 + 5 * 4)

    def test_nothing_floats(self):
        self.assertEqual(run_placed(BARE, (), (1,), most=5), ((1,), ("stopped",)))
        self.assertEqual(work_of(BARE, (), (1,), most=4, hold=1), 1 + 1 + 1 + 1)
        self.assertEqual(placed_trace(LEAST, (), most=2), (("only", (), ()), ("next", (), ())))
        self.assertEqual(speculated(LEAST, ()), ())

    def test_comes_to_the_same(self):
        done, asked = 0, 0
        for seed in range(140):
            graph = grown(seed, blocks=6, deeds=4, nodes=12, wide=seed % 3 == 0)
            chance = random.Random(seed)
            for _ in range(2):
                given, most, hold = some_words(chance), chance.choice((1, 3, 50, 200)), chance.randrange(10)
                due = ByWords(graph, given, most)
                for placement in some_placements(graph, chance):
                    self.assertEqual(run_placed(graph, placement, given, most=most), due.result())
                    machine = ByMachine(graph, placement, given, due.visits)
                    told = placed_trace(graph, placement, given, most=most)
                    self.assertEqual(told, tuple(machine.rows))
                    self.assertEqual(tuple(row[:2] for row in told), trace(graph, given, most=most))
                    self.assertEqual(work_of(graph, placement, given, hold=hold, most=most), machine.work(hold))
                    wanted = {node for row in due.visits for node in row[2]}
                    rows = {node for row in told for node, _ in row[2]}
                    self.assertEqual(speculated(graph, placement, given, most=most), tuple(sorted(rows - wanted)))
                    done, asked = done + len(rows), asked + len(rows & wanted)
        self.assertGreater(asked, 300)
        self.assertGreater(done, asked)

    def test_work_is_what_counts_cost(self):
        for seed in range(60):
            graph = grown(seed, blocks=5, deeds=2, nodes=9)
            chance = random.Random(seed)
            given = some_words(chance)
            if run(graph, given)[1][0] != "fault":
                counts = counts_of(graph, given)
                for placement in some_placements(graph, chance):
                    cost = cost_of(graph, placement, profile=counts, hold=3)
                    self.assertEqual(work_of(graph, placement, given, hold=3), cost)

    def test_loads_by_the_memory_now(self):
        for given in ((13, 65534, 21, 2), (13, 3, 20, 6), (8, 3, 7), ()):
            for placement in (early_placement(STORING), late_placement(STORING)):
                self.assertEqual(run_placed(STORING, placement, given), run(STORING, given))

    def test_most(self):
        for most in (1, 11, 12, 2000):
            for placement in (early_placement(TALL), late_placement(TALL)):
                self.assertEqual(run_placed(TALL, placement, most=most), run(TALL, most=most))
        self.assertEqual(len(placed_trace(BARE, (), (1,), most=2000)), 2000)

    def test_refused(self):
        wrong = with_slot(EARLY, 6, ("done", 1))
        for ask in (run_placed, placed_trace, work_of, speculated):
            for thing in odd_things():
                self.assertEqual(refusal(ask, STEADY, thing, thing, most=thing), ("BadPlacement", None))
                self.assertEqual(refusal(ask, STEADY, wrong, thing, most=thing), ("BadPlacement", 6))
                self.assertEqual(refusal(ask, LOOPED, thing, thing, most=thing), ("Unsound", 6))
                self.assertEqual(refusal(ask, thing, thing, thing, most=thing)[0], "BadGraph")
                self.assertEqual(refusal(ask, STEADY, EARLY, (3, thing), most=thing), ("BadGiven", 1))
                self.assertEqual(refusal(ask, STEADY, EARLY, (3,), most=thing)[0], "OutOfPlace")
                if not isinstance(thing, tuple):
                    self.assertEqual(refusal(ask, STEADY, EARLY, thing, most=thing), ("BadGiven", None))
            for most in (0, 2001):
                self.assertEqual(refusal(ask, STEADY, EARLY, most=most)[0], "OutOfPlace")
        for thing in odd_things() + [10, -1]:
            self.assertEqual(refusal(work_of, STEADY, EARLY, hold=thing)[0], "OutOfPlace")
            self.assertEqual(refusal(work_of, STEADY, EARLY, (1, -1), hold=thing), ("BadGiven", 1))
            self.assertEqual(refusal(work_of, STEADY, wrong, hold=thing), ("BadPlacement", 6))


if __name__ == "__main__":
    unittest.main()
