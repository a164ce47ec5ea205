import unittest
from itertools import combinations

from making import (
    LEAST, LOOPED, block_over, diamond, middle, random_graph, row_and_back, tried_joins, ways_by_hand,
)
from odd import odd_things

from seaplace.errors import BadGraph, NoBlock, OutOfPlace
from seaplace.graphs import names_of, predecessors
from seaplace.joins import frontier, joins

ONE = ((("a", (), ("return", 0)),), (("word", 0),))


class Joins(unittest.TestCase):
    def test_frontier(self):
        self.assertEqual(frontier(diamond(), "left"), ("foot",))
        self.assertEqual(frontier(diamond(), "top"), ())
        self.assertEqual(frontier(diamond(), "foot"), ())
        self.assertEqual(frontier(LOOPED, "foot"), ("head",))
        self.assertEqual(frontier(LOOPED, "head"), ("head",))
        self.assertEqual(frontier(LEAST, "next"), ("next",))
        self.assertEqual(frontier(graph=middle(), block="a"), ("b",))
        self.assertEqual(frontier(row_and_back(), "z"), ("abcdefgh",))

    def test_frontier_by_hand(self):
        for seed in range(120):
            graph = random_graph(seed)
            ways = ways_by_hand(graph)
            names = names_of(graph)
            for name in names:
                told = tuple(
                    other for other in names
                    if any(block_over(ways, names[0], name, one) for one in predecessors(graph, other))
                    and (other == name or not block_over(ways, names[0], name, other))
                )
                self.assertEqual(frontier(graph, name), told)

    def test_joins(self):
        self.assertEqual(joins(diamond(), ("left",)), ("foot",))
        self.assertEqual(joins(diamond(), ("left", "right")), ("foot",))
        self.assertEqual(joins(diamond(), ["foot"]), ())
        self.assertEqual(joins(LOOPED, ("right",)), ("head", "foot"))
        self.assertEqual(joins(LOOPED, ["done"]), ())
        self.assertEqual(joins(LOOPED, ("head",)), ("head",))
        self.assertEqual(joins(graph=middle(), blocks=("b",)), ("a", "b"))

    def test_a_block_that_is_a_loop(self):
        self.assertEqual(joins(LEAST, ("next",)), ("next",))
        self.assertEqual(joins(LEAST, ("only",)), ())

    def test_no_blocks_and_the_entry(self):
        for graph in (ONE, LEAST, LOOPED, diamond(), middle()):
            self.assertEqual(joins(graph, ()), ())
            self.assertEqual(joins(graph, []), ())
            self.assertEqual(joins(graph, (graph[0][0][0],)), ())
        self.assertEqual(joins(diamond(), ("top", "left")), ("foot",))

    def test_twice_and_in_any_order(self):
        for blocks in (["right", "left"], ("left", "right", "left"), ["right", "right", "top", "left"]):
            self.assertEqual(joins(LOOPED, blocks), ("head", "foot"))

    def test_by_pairs_of_paths(self):
        for seed in range(150):
            graph = random_graph(seed, 6)
            names = names_of(graph)
            for many in range(3):
                for blocks in combinations(names, many):
                    self.assertEqual(joins(graph, blocks), tried_joins(graph, blocks))

    def test_joins_of_joins(self):
        for seed in range(100):
            graph = random_graph(seed)
            blocks = names_of(graph)[seed % 3::3]
            met = joins(graph, blocks)
            self.assertEqual(joins(graph, blocks + met), met)
            for name in blocks + met:
                self.assertLessEqual(set(frontier(graph, name)), set(met))

    def test_refused(self):
        for thing in odd_things():
            with self.assertRaises(NoBlock) as caught:
                frontier(LOOPED, thing)
            self.assertIs(caught.exception.name, thing)
            with self.assertRaises(NoBlock) as caught:
                joins(LOOPED, ["left", thing, None])
            self.assertIs(caught.exception.name, thing)
            if not isinstance(thing, (list, tuple)):
                with self.assertRaises(OutOfPlace):
                    joins(LOOPED, thing)
            for ask in (frontier, joins):
                with self.assertRaises(BadGraph):
                    ask((), thing)

    def test_nothing_is_changed(self):
        blocks = ["right", "left", "right"]
        joins(LOOPED, blocks)
        self.assertEqual(blocks, ["right", "left", "right"])


if __name__ == "__main__":
    unittest.main()
