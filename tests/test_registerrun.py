import random
import unittest

from growing import grown
from making import BARE, LEAST, LOOPED, STEADY, TALL
from odd import odd_things
from running import by_table, some_words
from test_demand import STORING, TURNING, one_block
from test_placedrun import HASTY, some_placements
from test_placements import EARLY, with_slot
from trying import Trial, refusal

from seaplace.demand import run
from seaplace.graphs import block_of, live_nodes, names_of, predecessors
from seaplace.placements import early_placement, late_placement
from seaplace.registerrun import run_in_registers
from seaplace.registers import registers_of


class InRegisters:
    """A run in registers by the words of the document: sixty-four words, and nothing else but the cells."""

    def __init__(self, graph, placement, registers, given, most):
        self.graph = graph
        self.trial = Trial(graph)
        self.placed = dict(placement)
        self.at = dict(registers)
        self.words = {number: 0 for number in range(64)}
        self.cells = {}
        self.outs = []
        self.way = None
        entry = names_of(graph)[0]
        for node in sorted(self.trial.live):
            if graph[1][node][0] == "given":
                self.words[self.at[node]] = (*given, 0, 0, 0, 0)[graph[1][node][1]]
        self.go(entry, most)

    def go(self, name, most):
        """Enters block by block."""
        many = 1
        while True:
            self.through(name)
            if self.way is not None:
                return
            end = block_of(self.graph, name)[2]
            if end[0] == "return":
                self.way = ("returned", self.ask(end[1]))
                return
            way = end[1] if end[0] == "goto" else end[2] if self.ask(end[1]) else end[3]
            if many == most:
                self.way = ("stopped",)
                return
            at = predecessors(self.graph, way).index(name)
            phis = [node for node in self.trial.phis if self.graph[1][node][1] == way]
            moved = [(node, self.ask(self.graph[1][node][2][at])) for node in sorted(phis)]
            for node, word in moved:
                self.words[self.at[node]] = word
            name, many = way, many + 1

    def ask(self, node):
        """The word in a node's register."""
        return self.words[self.at[node]]

    def through(self, name):
        """Does the rows of a block."""
        deeds = block_of(self.graph, name)[1]
        for place in range(len(deeds) + 1):
            for node in self.trial.order():
                if self.placed[node] == (name, place):
                    self.reckon(node)
                    if self.way is not None:
                        return
            if place < len(deeds):
                deed = deeds[place]
                if deed[0] == "out":
                    self.outs.append(self.ask(deed[1]))
                elif deed[0] == "store":
                    self.cells[deed[1], self.ask(deed[2]) % 8] = self.ask(deed[3])
                elif self.ask(deed[1]) == 0:
                    self.way = ("fault", name, place)
                    return

    def reckon(self, node):
        """Sets a node's register."""
        thing = self.graph[1][node]
        if thing[0] == "word":
            word = thing[1]
        elif thing[0] == "load":
            word = self.cells.get((thing[1], self.ask(thing[2]) % 8), 0)
        elif thing[0] in ("div", "rest") and self.ask(thing[2]) == 0:
            self.way = ("divided", node)
            return
        else:
            word = by_table(thing[0], [self.ask(one) for one in thing[1:]])
        self.words[self.at[node]] = word

    def result(self):
        """What the run comes to."""
        return (tuple(self.outs), self.way)


class RegisterRuns(unittest.TestCase):
    def test_right_ones_come_to_the_same(self):
        for seed in range(110):
            graph = grown(seed, blocks=6, deeds=4, nodes=12, wide=seed % 3 == 0)
            chance = random.Random(seed)
            for placement in some_placements(graph, chance):
                registers = registers_of(graph, placement)
                others = list(range(64))
                chance.shuffle(others)
                moved = tuple((node, others[number]) for node, number in registers)
                given, most = some_words(chance), chance.choice((1, 3, 50, 200))
                due = run(graph, given, most=most)
                self.assertEqual(run_in_registers(graph, placement, registers, given, most=most), due)
                self.assertEqual(run_in_registers(graph, placement, moved, given, most=most), due)

    def test_wrong_ones_as_a_machine_does(self):
        ends, unlike = set(), 0
        for seed in range(90):
            graph = grown(seed, blocks=6, deeds=4, nodes=14, wide=seed % 3 == 0)
            chance = random.Random(seed)
            for placement in some_placements(graph, chance)[:2]:
                for many in (1, 2, 4):
                    numbers = chance.sample(range(64), many)
                    registers = tuple((node, chance.choice(numbers)) for node in live_nodes(graph))
                    given, most = some_words(chance), chance.choice((1, 2, 20))
                    told = run_in_registers(graph, placement, registers, given, most=most)
                    self.assertEqual(told, InRegisters(graph, placement, registers, given, most).result())
                    ends.add(told[1][0])
                    unlike += told != run(graph, given, most=most)
        self.assertEqual(ends, {"returned", "fault", "stopped", "divided"})
        self.assertGreater(unlike, 100)

    def test_divided_by_hand(self):
        early = early_placement(HASTY)
        # The quotient's own register is its divisor's: so it is 0 behind the quotient of 3 by 5.
        registers = ((0, 0), (1, 1), (2, 2), (3, 1), (4, 3), (5, 4))
        self.assertEqual(run_in_registers(HASTY, early, registers, (3, 5, 1)), ((), ("divided", 4)))
        self.assertEqual(run_in_registers(HASTY, early, registers, (3, 0, 1)), ((), ("fault", "top", 0)))
        self.assertEqual(run_in_registers(HASTY, early, registers, (17, 5, 1)), ((3,), ("returned", 3)))
        # Words put out ahead of it stay.
        graph = one_block([("check", 0), ("out", 0), ("out", 1)], ("return", 2), [
            ("given", 0), ("div", 2, 0), ("word", 9)])
        placement = ((1, ("a", 2)), (2, ("a", 1)))
        self.assertEqual(run_in_registers(graph, placement, ((0, 0), (1, 1), (2, 2)), (3,)), ((3, 3), ("returned", 9)))
        self.assertEqual(run_in_registers(graph, placement, ((0, 2), (1, 1), (2, 2)), (3,)), ((9, 1), ("returned", 9)))
        # Behind a quotient that can't be no other node is done, and no deed.
        graph = one_block([("check", 0), ("out", 0), ("out", 1), ("out", 3)], ("return", 3), [
            ("given", 0), ("div", 2, 0), ("word", 0), ("div", 2, 0)])
        placement = ((1, ("a", 2)), (2, ("a", 2)), (3, ("a", 2)))
        for own in (5, 6):
            registers = ((0, 5), (1, own), (2, own), (3, own))
            due = ((3, 0, 0), ("returned", 0)) if own == 6 else ((3,), ("divided", 1))
            self.assertEqual(run_in_registers(graph, placement, registers, (3,)), due)

    def test_all_are_0_at_first(self):
        # The word is reckoned behind the deed that puts it out by another's register.
        graph = one_block([("out", 1), ("out", 2)], ("return", 1), [("given", 0), ("word", 4), ("word", 5)])
        placement = ((1, ("a", 0)), (2, ("a", 1)))
        self.assertEqual(run_in_registers(graph, placement, ((1, 7), (2, 7))), ((4, 5), ("returned", 5)))
        loop = (
            (("top", (), ("goto", "loop")), ("loop", (("out", 1),), ("if", 0, "loop", "last")),
             ("last", (), ("return", 1))),
            (("given", 0), ("phi", "loop", (0, 2)), ("word", 8)),
        )
        placement = early_placement(loop)
        self.assertEqual(run_in_registers(loop, placement, ((0, 1), (1, 2), (2, 3)), (6,), most=3),
                         ((6, 8), ("stopped",)))
        self.assertEqual(run_in_registers(loop, placement, ((0, 1), (1, 2), (2, 1)), (6,), most=3),
                         ((8, 8), ("stopped",)))

    def test_of_two_with_one_register_the_last_stays(self):
        # Two phis that are set at once, and two givens: those of greater numbers are set behind.
        registers = tuple((node, 0 if node in (2, 3) else node + 10) for node in live_nodes(TURNING))
        told = run_in_registers(TURNING, early_placement(TURNING), registers, (7, 9, 1), most=2)
        self.assertEqual(told, ((9, 9), ("stopped",)))
        graph = one_block([("out", 0), ("out", 1)], ("return", 0), [("given", 0), ("given", 1)])
        self.assertEqual(run_in_registers(graph, (), ((0, 5), (1, 5)), (7, 9)), ((9, 9), ("returned", 9)))

    def test_edges(self):
        self.assertEqual(run_in_registers(LEAST, (), (), most=2), ((), ("stopped",)))
        self.assertEqual(run_in_registers(LEAST, (), (), most=2000), ((), ("stopped",)))
        self.assertEqual(run_in_registers(BARE, (), ((0, 63), (1, 63)), (1,), most=5), ((1,), ("stopped",)))
        for placement in (early_placement(TALL), late_placement(TALL)):
            registers = registers_of(TALL, placement)
            for most in (1, 11, 12, 2000):
                self.assertEqual(run_in_registers(TALL, placement, registers, most=most), run(TALL, most=most))
            each = tuple((node, 63 - node) for node, _ in registers)
            self.assertEqual(run_in_registers(TALL, placement, each), run(TALL))
        for given in ((13, 65534, 21, 2), (), (8, 3, 7)):
            placement = early_placement(STORING)
            registers = registers_of(STORING, placement)
            self.assertEqual(
                run_in_registers(graph=STORING, placement=placement, registers=registers, given=given, most=9),
                run(STORING, given, most=9))

    def test_refused(self):
        wrong = with_slot(EARLY, 6, ("done", 1))
        right = registers_of(STEADY, EARLY)
        shared = tuple((node, 0) for node, _ in right)
        self.assertIsNone(refusal(run_in_registers, STEADY, EARLY, shared))
        for thing in odd_things():
            self.assertEqual(refusal(run_in_registers, thing, EARLY, thing, thing, most=thing)[0], "BadGraph")
            self.assertEqual(refusal(run_in_registers, STEADY, thing, thing, thing, most=thing), ("BadPlacement", None))
            # No placement of a graph that isn't sound is legal: that is told ahead.
            self.assertEqual(refusal(run_in_registers, LOOPED, thing, thing, thing, most=thing), ("BadPlacement", None))
            self.assertEqual(refusal(run_in_registers, STEADY, wrong, thing, thing, most=thing), ("BadPlacement", 6))
            self.assertEqual(refusal(run_in_registers, STEADY, EARLY, (thing,), thing, most=thing),
                             ("BadPaper", ("row", 0)))
            self.assertEqual(refusal(run_in_registers, STEADY, EARLY, (*shared, thing), thing, most=thing),
                             ("BadPaper", ("row", len(right))))
            self.assertEqual(refusal(run_in_registers, STEADY, EARLY, shared, (3, thing), most=thing), ("BadGiven", 1))
            self.assertEqual(refusal(run_in_registers, STEADY, EARLY, right, (3,), most=thing)[0], "OutOfPlace")
            if not isinstance(thing, tuple):
                self.assertEqual(refusal(run_in_registers, STEADY, EARLY, thing, thing, most=thing), ("BadPaper", None))
                self.assertEqual(refusal(run_in_registers, STEADY, EARLY, shared, thing, most=thing),
                                 ("BadGiven", None))
        for most in (0, 2001):
            self.assertEqual(refusal(run_in_registers, STEADY, EARLY, right, most=most)[0], "OutOfPlace")
        self.assertEqual(refusal(run_in_registers, STEADY, EARLY, right, (0,) * 5), ("BadGiven", None))


if __name__ == "__main__":
    unittest.main()
