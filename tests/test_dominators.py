import unittest

from making import (
    LEAST, LOOPED, block_over, diamond, middle, random_graph, row_and_back, slot_over, ways_by_hand,
)
from odd import odd_things

from seaplace.dominators import above, chain, dominates, dominators, meet
from seaplace.errors import BadGraph, NoBlock, OutOfPlace
from seaplace.graphs import names_of, slots_of

ONE = ((("a", (("out", 0), ("out", 0)), ("return", 0)),), (("word", 0),))


class Blocks(unittest.TestCase):
    def test_dominators(self):
        told = {"head": "top", "left": "head", "right": "head", "foot": "head", "done": "foot"}
        self.assertEqual(dominators(LOOPED), told)
        self.assertEqual(list(dominators(LOOPED)), ["head", "left", "right", "foot", "done"])
        self.assertEqual(dominators(ONE), {})
        self.assertEqual(dominators(middle()), {"a": "top", "b": "top", "c": "a"})

    def test_above(self):
        self.assertEqual(above(LOOPED, "top"), ("top",))
        self.assertEqual(above(LOOPED, "done"), ("top", "head", "foot", "done"))
        self.assertEqual(above(graph=row_and_back(), block="z"), names_of(row_and_back()))

    def test_many_by_hand(self):
        for seed in range(150):
            graph = random_graph(seed)
            ways = ways_by_hand(graph)
            names = names_of(graph)
            told = dominators(graph)
            self.assertEqual(tuple(told), names[1:])
            for name in names:
                over = above(graph, name)
                self.assertEqual(set(over), {one for one in names if block_over(ways, names[0], one, name)})
                self.assertEqual((over[0], over[-1]), (names[0], name))
                for at, one in enumerate(over):
                    self.assertTrue(all(block_over(ways, names[0], higher, one) for higher in over[:at]))
                if name != names[0]:
                    self.assertEqual(told[name], over[-2])

    def test_refused(self):
        for thing in odd_things():
            with self.assertRaises(NoBlock) as caught:
                above(LOOPED, thing)
            self.assertIs(caught.exception.name, thing)
        for ask in (dominators, lambda graph: above(graph, 1)):
            with self.assertRaises(BadGraph):
                ask((LOOPED[0], ()))


class Slots(unittest.TestCase):
    def test_dominates(self):
        for one, other, holds in (
            (("left", 1), ("left", 1), True), (("left", 0), ("left", 2), True), (("left", 2), ("left", 1), False),
            (("top", 1), ("done", 0), True), (("left", 0), ("foot", 0), False), (("head", 0), ("foot", 0), True),
            (("foot", 0), ("head", 0), False), (("done", 5), ("done", 0), False), (("left", 0), ("right", 0), False),
        ):
            self.assertIs(dominates(LOOPED, one, other), holds)
            self.assertIs(dominates(graph=LOOPED, slot=one, other=other), holds)

    def test_a_loop_of_one_block(self):
        graph = ((("only", (), ("goto", "next")), ("next", (("out", 0),), ("goto", "next"))), (("word", 0),))
        self.assertIs(dominates(graph, ("next", 1), ("next", 0)), False)
        self.assertIs(dominates(graph, ("next", 0), ("next", 1)), True)
        self.assertEqual(chain(graph, ("next", 0)), (("only", 0), ("next", 0)))

    def test_chain(self):
        self.assertEqual(
            chain(LOOPED, ("left", 1)), (("top", 0), ("top", 1), ("head", 0), ("left", 0), ("left", 1))
        )
        self.assertEqual(
            chain(LOOPED, ("done", 0)), (("top", 0), ("top", 1), ("head", 0), ("foot", 0), ("done", 0))
        )
        self.assertEqual(chain(ONE, ("a", 0)), (("a", 0),))
        self.assertEqual(chain(graph=ONE, slot=("a", 2)), (("a", 0), ("a", 1), ("a", 2)))

    def test_meet(self):
        self.assertEqual(meet(LOOPED, (("left", 2), ("right", 1))), ("head", 0))
        self.assertEqual(meet(LOOPED, (("left", 2),)), ("left", 2))
        self.assertEqual(meet(LOOPED, (("left", 2), ("left", 1), ("left", 2))), ("left", 1))
        self.assertEqual(meet(LOOPED, (("done", 3), ("done", 1))), ("done", 1))
        self.assertEqual(meet(LOOPED, (("done", 3), ("top", 0))), ("top", 0))
        self.assertEqual(meet(graph=LOOPED, slots=(("left", 0), ("done", 4), ("top", 1))), ("top", 1))
        # The last slot of the block that dominates both.
        blocks = ((("top", (("out", 0), ("out", 0)), ("if", 0, "left", "right")), *diamond()[0][1:]), diamond()[1])
        self.assertEqual(meet(blocks, (("left", 0), ("right", 0))), ("top", 2))

    def test_many_by_hand(self):
        for seed in range(25):
            graph = random_graph(seed, 6)
            slots = slots_of(graph)
            for slot in slots:
                over = {one for one in slots if slot_over(graph, one, slot)}
                told = chain(graph, slot)
                self.assertEqual(set(told), over)
                self.assertEqual(len(told), len(over))
                self.assertEqual(told[-1], slot)
                for one, lower in zip(told, told[1:]):
                    self.assertTrue(slot_over(graph, one, lower))
                for other in slots[::3]:
                    self.assertIs(dominates(graph, slot, other), slot_over(graph, slot, other))
                    met = meet(graph, (slot, other))
                    both = [one for one in told if slot_over(graph, one, other)]
                    self.assertEqual(met, both[-1])

    def test_refused(self):
        good = ("top", 0)
        for thing in odd_things():
            for ask in (lambda: dominates(LOOPED, thing, good), lambda: dominates(LOOPED, good, thing)):
                with self.assertRaises(OutOfPlace):
                    ask()
            with self.assertRaises(OutOfPlace):
                chain(LOOPED, thing)
            with self.assertRaises(OutOfPlace):
                meet(LOOPED, thing)
            with self.assertRaises(OutOfPlace):
                meet(LOOPED, (good, thing))
        for things in ((), [], [good], good, {good: 1}, {good}, "top", (good, None), (("top", 2),)):
            with self.assertRaises(OutOfPlace):
                meet(LOOPED, things)
        for ask in (dominates, chain, meet):
            with self.assertRaises(BadGraph):
                ask(*((None, None, None) if ask == dominates else (None, None)))

    def test_slots_just_outside(self):
        self.assertIs(dominates(LOOPED, ("done", 5), ("done", 5)), True)
        for thing in (("done", 6), ("head", 1), ("done", -1), ("done", True)):
            with self.assertRaises(OutOfPlace):
                chain(LOOPED, thing)
        self.assertEqual(chain(LEAST, ("next", 0)), (("only", 0), ("next", 0)))


if __name__ == "__main__":
    unittest.main()
