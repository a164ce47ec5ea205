import itertools
import random
import unittest

from growing import grown
from making import BARE, LEAST, LOOPED, STEADY, TALL
from odd import odd_things
from running import Living
from test_demand import TURNING, one_block
from test_placedrun import some_placements
from test_placements import EARLY, counted, with_slot
from trying import refusal

from seaplace.graphs import live_nodes
from seaplace.liveness import clash, live_at, most_live, points
from seaplace.placements import count_placements, early_placement, late_placement, legal_placements
from seaplace.registers import REGISTERS, TRIED, fewest_registers, register_paper, registers_of, squeezed


def pairs_that_clash(graph, placement):
    """All pairs of nodes that clash, by going on along all ways."""
    living = Living(graph, placement)
    found = set()
    for point in living.points:
        found.update(itertools.combinations(living.live(point), 2))
    return found


def can_do(nodes, pairs, many):
    """Whether so many numbers are enough, by trying all."""
    def go_on(numbers):
        if len(numbers) == len(nodes):
            return True
        node = nodes[len(numbers)]
        for number in range(min(many, max([-1, *numbers]) + 2)):
            if not any(numbers[at] == number and (nodes[at], node) in pairs for at in range(len(numbers))):
                if go_on([*numbers, number]):
                    return True
        return False
    return go_on([])


class Registers(unittest.TestCase):
    def test_constants(self):
        self.assertEqual((REGISTERS, TRIED), (64, 300))

    def right(self, graph, placement):
        """Right registers with the fewest numbers."""
        told = registers_of(graph, placement)
        self.assertIsInstance(told, tuple)
        self.assertEqual([node for node, _ in told], list(live_nodes(graph)))
        self.assertTrue(all(type(number) is int and 0 <= number < 64 for _, number in told))
        numbers = dict(told)
        pairs = pairs_that_clash(graph, placement)
        for one, other in pairs:
            self.assertNotEqual(numbers[one], numbers[other])
        many = len(set(numbers.values()))
        self.assertEqual(fewest_registers(graph, placement), many)
        self.assertEqual(most_live(graph, placement), many)
        paper = register_paper(graph, placement)
        self.assertIsInstance(paper, tuple)
        self.assertEqual(len(paper), 2)
        self.assertIn(paper[1], points(graph, placement))
        self.assertEqual([node for node, _ in paper[0]], list(live_nodes(graph)))
        self.assertEqual(len({number for _, number in paper[0]}), len(live_at(graph, placement, paper[1])))
        for one, other in pairs:
            self.assertNotEqual(dict(paper[0])[one], dict(paper[0])[other])
        return many

    def test_right_and_fewest(self):
        for seed in range(90):
            graph = grown(seed, blocks=6, deeds=3, nodes=12, wide=seed % 3 == 0)
            for placement in some_placements(graph, random.Random(seed))[:2]:
                self.right(graph, placement)

    def test_fewest_by_trial(self):
        for seed in range(60):
            graph = grown(seed, blocks=4, deeds=2, nodes=6)
            for placement in some_placements(graph, random.Random(seed))[:2]:
                pairs = pairs_that_clash(graph, placement)
                many = fewest_registers(graph, placement)
                self.assertTrue(can_do(live_nodes(graph), pairs, many))
                self.assertFalse(many and can_do(live_nodes(graph), pairs, many - 1))

    def test_by_hand(self):
        self.assertEqual(self.right(STEADY, EARLY), 7)
        self.assertEqual(registers_of(graph=LEAST, placement=()), ())
        self.assertEqual(fewest_registers(graph=LEAST, placement=()), 0)
        self.assertEqual(register_paper(graph=LEAST, placement=())[0], ())
        self.assertIn(register_paper(LEAST, ())[1], (("only", 0), ("next", 0)))
        self.assertEqual(registers_of(BARE, ()), ((0, 0), (1, 0)))
        # A node may have the number of an input that isn't live behind it.
        graph = one_block([("out", 1)], ("return", 2), [("given", 0), ("add", 0, 0), ("sub", 1, 1)])
        self.assertEqual(len({number for _, number in registers_of(graph, ((1, ("a", 0)), (2, ("a", 1))))}), 1)
        placement = early_placement(TURNING)
        self.assertEqual(self.right(TURNING, placement), fewest_registers(TURNING, placement))

    def test_tall(self):
        # Forty nodes in one slot: two of them are live at once, or all words, where each waits for its use.
        self.assertEqual(self.right(TALL, early_placement(TALL)), 2)
        many = 40
        graph = one_block([], ("return", many - 1), [("word", node) for node in range(21)] + [
            ("add", node - 1, 40 - node) for node in range(21, many)])
        self.assertEqual(self.right(graph, early_placement(graph)), 20)

    def test_squeezed_tried(self):
        none, some = 0, 0
        for seed in range(120):
            graph = grown(seed, blocks=4, deeds=2, nodes=8, wide=seed % 2 == 0)
            if refusal(count_placements, graph, most=60) is not None:
                continue
            rows = legal_placements(graph)
            lives = []
            for placement in rows:
                living = Living(graph, placement)
                lives.append(max(len(living.live(point)) for point in living.points))
            for many in sorted({0, min(lives) - 1, min(lives), min(lives) + 1, max(lives), 64} - {-1}):
                fit = [placement for placement, live in zip(rows, lives) if live <= many]
                self.assertEqual(squeezed(graph, many), fit[0] if fit else None)
                none, some = none + (not fit), some + (bool(fit) and fit[0] != rows[0])
        self.assertGreater(none, 40)
        self.assertGreater(some, 10)

    def test_squeezed_by_hand(self):
        for many in range(4):
            self.assertIsNone(squeezed(STEADY, many))
        self.assertEqual(squeezed(STEADY, 7), EARLY)
        self.assertEqual(squeezed(graph=STEADY, many=64), EARLY)
        rows = legal_placements(STEADY)
        for many in (4, 5, 6):
            fit = [placement for placement in rows if most_live(STEADY, placement) <= many]
            self.assertEqual(squeezed(STEADY, many, most=56), fit[0])
            self.assertNotEqual(fit[0], EARLY)
        self.assertEqual(squeezed(LEAST, 0, most=1), ())
        self.assertEqual(squeezed(BARE, 1, most=1), ())
        self.assertIsNone(squeezed(BARE, 0))

    def test_most(self):
        # As many placements as may be tried, and one more.
        for graph, many in ((STEADY, 56), (counted(5, 8), 40), (counted(10, 10, 3), 300), (counted(8, 10, 5, 5), 2000)):
            self.assertEqual(squeezed(graph, 64, most=many), early_placement(graph))
            self.assertIsNone(squeezed(graph, 0, most=many))
            self.assertEqual(refusal(squeezed, graph, 64, most=many - 1)[0], "TooGreat")
            self.assertEqual(refusal(squeezed, graph, 0, most=1)[0], "TooGreat")
        self.assertIsNone(refusal(squeezed, counted(10, 10, 3), 64))
        self.assertEqual(refusal(squeezed, counted(7, 43), 64)[0], "TooGreat")
        self.assertEqual(refusal(squeezed, TALL, 64, most=2000)[0], "TooGreat")

    def test_refused(self):
        wrong = with_slot(EARLY, 6, ("done", 1))
        for ask in (registers_of, register_paper, fewest_registers):
            for thing in odd_things():
                self.assertEqual(refusal(ask, STEADY, thing), ("BadPlacement", None))
                self.assertEqual(refusal(ask, LOOPED, thing), ("BadPlacement", None))
                self.assertEqual(refusal(ask, thing, EARLY)[0], "BadGraph")
            self.assertEqual(refusal(ask, STEADY, wrong), ("BadPlacement", 6))
        for thing in odd_things() + [65, "1"]:
            self.assertEqual(refusal(squeezed, STEADY, thing, most=1)[0], "OutOfPlace")
            self.assertEqual(refusal(squeezed, LOOPED, thing, most=thing), ("Unsound", 6))
            self.assertEqual(refusal(squeezed, (), thing, most=thing), ("BadGraph", None, None))
        for thing in odd_things() + [0, 2001]:
            self.assertEqual(refusal(squeezed, STEADY, 64, most=thing)[0], "OutOfPlace")
        self.assertEqual(late_placement(STEADY)[0], (0, ("top", 0)))
        self.assertIs(clash(STEADY, EARLY, 4, 5), True)


if __name__ == "__main__":
    unittest.main()
