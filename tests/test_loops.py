import unittest

from making import (
    LEAST, LOOPED, block_over, blocks_only, diamond, middle, random_graph, reach, row_and_back, ways_by_hand,
)
from odd import odd_things

from seaplace.errors import BadGraph, NoBlock
from seaplace.graphs import names_of
from seaplace.loops import depth_of, is_reducible, loops

ONE = ((("a", (), ("return", 0)),), (("word", 0),))
NESTED = blocks_only({
    "top": ("a",), "a": ("b",), "b": ("c", "e"), "c": ("c", "d"), "d": ("b", "a"), "e": (),
})


class Loops(unittest.TestCase):
    def test_loops(self):
        self.assertEqual(loops(ONE), [])
        self.assertEqual(loops(diamond()), [])
        self.assertEqual(loops(LOOPED), [("head", ("head", "left", "right", "foot"))])

    def test_a_block_that_is_a_loop(self):
        self.assertEqual(loops(LEAST), [("next", ("next",))])
        self.assertEqual(depth_of(LEAST, "next"), 1)
        self.assertEqual(depth_of(LEAST, "only"), 0)

    def test_loops_within_loops(self):
        self.assertEqual(loops(NESTED), [("a", ("a", "b", "c", "d")), ("b", ("b", "c", "d")), ("c", ("c",))])
        told = {"top": 0, "a": 1, "b": 2, "c": 3, "d": 2, "e": 0}
        for name, depth in told.items():
            self.assertEqual(depth_of(graph=NESTED, block=name), depth)

    def test_twelve_blocks_and_back(self):
        graph = row_and_back()
        names = names_of(graph)
        self.assertEqual(loops(graph), [(name, names[at:]) for at, name in enumerate(names) if 0 < at < 11])
        self.assertEqual([depth_of(graph, name) for name in names], [0, 1, 2, 3, 4, 5, 6, 7, 8, 9, 10, 10])
        self.assertIs(is_reducible(graph), True)

    def test_one_loop_of_two_edges_back(self):
        graph = blocks_only({"top": ("a",), "a": ("b", "c"), "b": ("a",), "c": ("a", "d"), "d": ()})
        self.assertEqual(loops(graph), [("a", ("a", "b", "c"))])
        self.assertEqual(depth_of(graph, "c"), 1)

    def test_entered_in_its_middle(self):
        self.assertEqual(loops(middle()), [])
        self.assertIs(is_reducible(middle()), False)
        self.assertEqual(depth_of(middle(), "a"), 0)

    def test_reducible(self):
        for graph in (ONE, LEAST, LOOPED, diamond(), NESTED):
            self.assertIs(is_reducible(graph), True)
        # A loop with a head that has one without a head in it.
        graph = blocks_only({
            "top": ("h",), "h": ("a", "b"), "a": ("b", "h"), "b": ("a",),
        })
        self.assertEqual(loops(graph), [("h", ("h", "a", "b"))])
        self.assertIs(is_reducible(graph), False)

    def test_many_by_hand(self):
        kinds = set()
        for seed in range(200):
            graph = random_graph(seed)
            ways = ways_by_hand(graph)
            names = names_of(graph)
            told = []
            for head in names:
                lasts = [one for one in names if head in ways[one] and block_over(ways, names[0], head, one)]
                if lasts:
                    found = [name for name in names if reach(ways, name, (head,)) & (set(lasts) - {head})]
                    told.append((head, tuple(name for name in names if name == head or name in found)))
            self.assertEqual(loops(graph), told)
            for name in names:
                self.assertEqual(depth_of(graph, name), sum(name in blocks for _, blocks in told))
            kinds.add(is_reducible(graph))
            self.assertIs(is_reducible(graph), self.reducible_by_hand(ways, names))
        self.assertEqual(kinds, {True, False})

    def reducible_by_hand(self, ways, names):
        # A path around without a block above all others is one that also leads around without any edge to such.
        on = {one: [way for way in ways[one] if not block_over(ways, names[0], way, one)] for one in names}
        return not any(name in reach(on, way, ()) for name in names for way in on[name])

    def test_reducible_by_all_short_rings(self):
        for seed in range(120):
            graph = random_graph(seed, 5)
            ways = ways_by_hand(graph)
            entry = names_of(graph)[0]
            holds = True
            for start in ways:
                rows = [(start,)]
                while rows:
                    path = rows.pop()
                    for way in ways[path[-1]]:
                        if way == start:
                            holds = holds and any(all(block_over(ways, entry, one, other) for other in path) for one in path)
                        elif way not in path:
                            rows.append((*path, way))
            self.assertIs(is_reducible(graph), holds)

    def test_refused(self):
        for thing in odd_things():
            with self.assertRaises(NoBlock) as caught:
                depth_of(LOOPED, thing)
            self.assertIs(caught.exception.name, thing)
            with self.assertRaises(BadGraph):
                depth_of((), thing)
        for ask in (loops, is_reducible):
            with self.assertRaises(BadGraph):
                ask([])

    def test_what_is_told_is_the_askers_own(self):
        loops(LOOPED).clear()
        self.assertEqual(len(loops(LOOPED)), 1)


if __name__ == "__main__":
    unittest.main()
