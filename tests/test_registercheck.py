import itertools
import random
import unittest

from growing import grown
from making import BARE, LEAST, LOOPED, STEADY
from odd import odd_things
from running import Living
from test_demand import one_block
from test_placedrun import some_placements
from test_placements import EARLY, with_slot
from trying import refusal

from seaplace.graphs import live_nodes
from seaplace.placements import early_placement
from seaplace.registercheck import check_registers, need_registers
from seaplace.registers import fewest_registers, register_paper, registers_of

# Two words that are live together, then one of them alone.
TWO = one_block([("store", 0, 0, 1), ("out", 0)], ("return", 0), [("word", 4), ("word", 5), ("word", 6)])
TWO_EARLY = ((0, ("a", 0)), (1, ("a", 0)))


def tables(graph, placement):
    """For each point the nodes live there, by going on along all ways."""
    living = Living(graph, placement)
    return {point: living.live(point) for point in living.points}


def due(graph, tables_by_point, registers):
    """The least node that has the number of a lesser one with which it clashes, or None."""
    numbers = dict(registers)
    found = [
        max(pair) for nodes in tables_by_point.values() for pair in itertools.combinations(nodes, 2)
        if numbers[pair[0]] == numbers[pair[1]]
    ]
    return min(found, default=None)


class RegisterChecks(unittest.TestCase):
    def test_drawn_registers(self):
        wrong = 0
        for seed in range(120):
            graph = grown(seed, blocks=6, deeds=3, nodes=12, wide=seed % 3 == 0)
            chance = random.Random(seed)
            nodes = live_nodes(graph)
            for placement in some_placements(graph, chance)[:2]:
                table = tables(graph, placement)
                fewest = max(map(len, table.values()))
                for many in (1, 2, fewest, 64):
                    registers = tuple((node, chance.randrange(max(many, 1))) for node in nodes)
                    node = due(graph, table, registers)
                    self.assertIsNone(refusal(need_registers, graph, placement, registers, right=False))
                    answer = None if node is None else ("BadPaper", ("clash", node))
                    self.assertEqual(refusal(need_registers, graph, placement, registers), answer)
                    self.assertEqual(refusal(need_registers, graph, placement, registers, right=True), answer)
                    wrong += node is not None
                    for point in list(table)[::5]:
                        if answer is None:
                            more = len(table[point]) - len(set(dict(registers).values()))
                            shown = ("BadPaper", ("point", more)) if more else None
                            self.assertEqual(refusal(check_registers, graph, placement, (registers, point)), shown)
                        else:
                            self.assertEqual(refusal(check_registers, graph, placement, (registers, point)), answer)
        self.assertGreater(wrong, 150)

    def test_papers_told(self):
        for seed in range(120):
            graph = grown(seed, blocks=6, deeds=3, nodes=12)
            for placement in some_placements(graph, random.Random(seed)):
                self.assertIsNone(need_registers(graph, placement, registers_of(graph, placement)))
                paper = register_paper(graph, placement)
                self.assertEqual(check_registers(graph, placement, paper), fewest_registers(graph, placement))

    def test_by_hand(self):
        self.assertIsNone(need_registers(TWO, TWO_EARLY, ((0, 0), (1, 63))))
        self.assertEqual(refusal(need_registers, TWO, TWO_EARLY, ((0, 3), (1, 3))), ("BadPaper", ("clash", 1)))
        self.assertIsNone(need_registers(graph=TWO, placement=TWO_EARLY, registers=((0, 3), (1, 3)), right=False))
        for point in (("a", 1), ("a", 2)):
            self.assertEqual(live_many(TWO, TWO_EARLY, point), 1 + (point[1] == 2))
        self.assertEqual(check_registers(TWO, TWO_EARLY, (((0, 0), (1, 1)), ("a", 2))), 2)
        self.assertEqual(refusal(check_registers, TWO, TWO_EARLY, (((0, 0), (1, 1)), ("a", 1))),
                         ("BadPaper", ("point", -1)))
        self.assertEqual(refusal(check_registers, TWO, TWO_EARLY, (((0, 0), (1, 1)), ("a", 0))),
                         ("BadPaper", ("point", -2)))
        # No registers at all: nothing is live.
        self.assertIsNone(need_registers(LEAST, (), ()))
        self.assertEqual(check_registers(LEAST, (), ((), ("next", 0))), 0)
        self.assertIsNone(need_registers(BARE, (), ((0, 5), (1, 5))))
        self.assertEqual(check_registers(BARE, (), ((((0, 5), (1, 5))), ("loop", 0))), 1)

    def test_the_least_of_those_that_clash(self):
        # Five words live together: of each two with one number the greater one clashes.
        graph = one_block([("out", node) for node in range(5)], ("return", 5), [("word", node) for node in range(6)])
        placement = early_placement(graph)
        self.assertEqual(refusal(need_registers, graph, placement, tuple(zip(range(6), (0, 1, 2, 1, 0, 3)))),
                         ("BadPaper", ("clash", 3)))
        self.assertEqual(refusal(need_registers, graph, placement, tuple(zip(range(6), (0, 1, 2, 3, 4, 0)))),
                         ("BadPaper", ("clash", 5)))
        self.assertEqual(refusal(need_registers, graph, placement, tuple(zip(range(6), (9,) * 6))),
                         ("BadPaper", ("clash", 1)))

    def test_rows(self):
        right = registers_of(STEADY, EARLY)
        many = len(right)
        asks = (
            lambda registers: refusal(need_registers, STEADY, EARLY, registers),
            lambda registers: refusal(need_registers, STEADY, EARLY, registers, right=False),
            lambda registers: refusal(check_registers, STEADY, EARLY, (registers, ("top", 0))),
        )
        for ask in asks:
            for at in range(many):
                node, number = right[at]
                for row in odd_things() + [
                    (node + 1, number), (node, -1), (node, 64), (node, True), [node, number], (node,),
                    (node, number, 0), (str(node), number), (node, None), (node, str(number)), (number, node, node),
                ]:
                    changed = right[:at] + (row,) + right[at + 1:]
                    self.assertEqual(ask(changed), ("BadPaper", ("row", at)))
                    # Of two rows the first one is told, whatever clashes.
                    self.assertEqual(ask(tuple((one, 0) for one, _ in right[:at]) + (row, None)),
                                     ("BadPaper", ("row", at)))
                self.assertEqual(ask(right[:at] + right[at + 1:]), ("BadPaper", ("row", at)))
                self.assertEqual(ask(right[:at]), ("BadPaper", ("row", at)))
                if at:
                    twice = right[:at] + right[at - 1:]
                    self.assertEqual(ask(twice), ("BadPaper", ("row", at)))
                    changed = right[:at - 1] + (right[at], right[at - 1]) + right[at + 1:]
                    self.assertEqual(ask(changed), ("BadPaper", ("row", at - 1)))
            for more in odd_things() + [right[-1], (many, 0)]:
                self.assertEqual(ask((*right, more)), ("BadPaper", ("row", many)))
            for thing in odd_things() + [list(right), dict(right)]:
                if not isinstance(thing, tuple):
                    self.assertEqual(ask(thing), ("BadPaper", None))
        first = live_nodes(STEADY)[0]
        self.assertEqual(refusal(need_registers, STEADY, EARLY, ((bool(first), 0), *right[1:])),
                         ("BadPaper", ("row", 0)))

    def test_right_is_false_alone(self):
        for right in (True, None, 0, "", (), [], 1):
            self.assertEqual(refusal(need_registers, TWO, TWO_EARLY, ((0, 3), (1, 3)), right=right),
                             ("BadPaper", ("clash", 1)))

    def test_papers_of_no_form(self):
        registers, point = register_paper(STEADY, EARLY)
        for thing in odd_things() + [
            [registers, point], (registers,), (registers, point, point), (list(registers), point), (registers, None),
            (registers, list(point)), (registers, ("top", 99)), (registers, ("top", -1)), (registers, ("top", False)),
            (registers, ("nowhere", 0)), (point, registers), (None, point), (registers, registers),
        ]:
            self.assertEqual(refusal(check_registers, STEADY, EARLY, thing), ("BadPaper", None))
        # What is no point is told ahead of rows.
        self.assertEqual(refusal(check_registers, STEADY, EARLY, ((None,), ("top", 99))), ("BadPaper", None))
        self.assertEqual(refusal(check_registers, STEADY, EARLY, ((None,), point)), ("BadPaper", ("row", 0)))
        self.assertIsNone(refusal(check_registers, graph=STEADY, placement=EARLY, paper=(registers, point)))

    def test_refused_ahead(self):
        wrong = with_slot(EARLY, 6, ("done", 1))
        for ask in (need_registers, check_registers):
            for thing in odd_things():
                self.assertEqual(refusal(ask, STEADY, thing, thing), ("BadPlacement", None))
                self.assertEqual(refusal(ask, LOOPED, thing, thing), ("BadPlacement", None))
                self.assertEqual(refusal(ask, thing, EARLY, thing)[0], "BadGraph")
                self.assertEqual(refusal(ask, STEADY, wrong, thing), ("BadPlacement", 6))


def live_many(graph, placement, point):
    """How many nodes are live at a point."""
    return len(Living(graph, placement).live(point))


if __name__ == "__main__":
    unittest.main()
