import unittest

from making import LEAST, LOOPED, diamond, middle, random_graph, reach, row_and_back, ways_by_hand
from odd import odd_things

from seaplace.errors import BadGraph, NoBlock, OutOfPlace
from seaplace.flow import edges, shortest_path
from seaplace.graphs import names_of


class Flow(unittest.TestCase):
    def test_edges(self):
        self.assertEqual(edges(diamond()), [("top", "left"), ("top", "right"), ("left", "foot"), ("right", "foot")])
        self.assertEqual(edges(LEAST), [("only", "next"), ("next", "next")])
        self.assertEqual(edges(((("a", (), ("return", 0)),), (("word", 0),))), [])

    def test_edges_of_an_if_are_in_its_order(self):
        blocks, nodes = diamond()
        turned = ((("top", (), ("if", 0, "right", "left")), *blocks[1:]), nodes)
        self.assertEqual(edges(turned)[:2], [("top", "right"), ("top", "left")])

    def test_shortest(self):
        self.assertEqual(shortest_path(LOOPED, "top", "head"), ("top", "head"))
        self.assertEqual(shortest_path(LOOPED, "top", "top"), ("top",))
        self.assertEqual(shortest_path(LEAST, "next", "next"), ("next",))
        self.assertIn(shortest_path(LOOPED, "left", "right"), (("left", "foot", "head", "right"),))
        self.assertIsNone(shortest_path(LOOPED, "head", "top"))
        self.assertEqual(len(shortest_path(row_and_back(), "top", "z")), 12)
        self.assertEqual(len(shortest_path(row_and_back(), "z", "a")), 11)

    def test_without(self):
        self.assertEqual(
            shortest_path(LOOPED, "head", "foot", without=("left",)), ("head", "right", "foot")
        )
        self.assertEqual(
            shortest_path(graph=LOOPED, one="head", other="foot", without=["right", "right"]), ("head", "left", "foot")
        )
        self.assertIsNone(shortest_path(LOOPED, "head", "foot", without=("left", "right")))
        self.assertIsNone(shortest_path(LOOPED, "head", "foot", without=("head",)))
        self.assertIsNone(shortest_path(LOOPED, "head", "foot", without=("foot",)))
        self.assertIsNone(shortest_path(LOOPED, "head", "head", without=["head"]))
        self.assertEqual(shortest_path(LOOPED, "head", "head", without=["top"]), ("head",))
        with self.assertRaises(TypeError):
            shortest_path(LOOPED, "head", "foot", ())

    def test_many_by_hand(self):
        for seed in range(60):
            graph = random_graph(seed, 8)
            ways = ways_by_hand(graph)
            names = names_of(graph)
            for one in names:
                for other in names:
                    for without in ((), names[1:2], names[2:4]):
                        self.by_hand(graph, ways, one, other, without)

    def by_hand(self, graph, ways, one, other, without):
        path = shortest_path(graph, one, other, without=without)
        if other not in reach(ways, one, without):
            self.assertIsNone(path)
            return
        self.assertEqual((path[0], path[-1]), (one, other))
        self.assertFalse(set(path) & set(without))
        for name, after in zip(path, path[1:]):
            self.assertIn(after, ways[name])
        self.assertEqual(len(path) - 1, self.steps(ways, one, other, without))

    def steps(self, ways, one, other, without):
        level = {one}
        count = 0
        while other not in level:
            level = {way for name in level for way in ways[name] if way not in without}
            count += 1
        return count

    def test_refused(self):
        for thing in odd_things():
            for told, name in (((thing, "top"), thing), (("top", thing), thing), ((thing, None), thing)):
                with self.assertRaises(NoBlock) as caught:
                    shortest_path(LOOPED, *told)
                self.assertIs(caught.exception.name, name)
            if not isinstance(thing, (list, tuple)):
                with self.assertRaises(OutOfPlace):
                    shortest_path(LOOPED, "top", "done", without=thing)
            with self.assertRaises(NoBlock) as caught:
                shortest_path(LOOPED, "top", "done", without=["top", thing, None])
            self.assertIs(caught.exception.name, thing)

    def test_refused_first(self):
        with self.assertRaises(BadGraph):
            shortest_path((), 1, 2, without=3)
        with self.assertRaises(NoBlock) as caught:
            shortest_path(LOOPED, 1, 2, without=3)
        self.assertEqual(caught.exception.name, 1)
        with self.assertRaises(NoBlock) as caught:
            shortest_path(LOOPED, "top", 2, without=3)
        self.assertEqual(caught.exception.name, 2)
        with self.assertRaises(NoBlock) as caught:
            shortest_path(LOOPED, "top", "top", without=["top", "nowhere"])
        self.assertEqual(caught.exception.name, "nowhere")

    def test_what_is_told_is_the_askers_own(self):
        rows = edges(middle())
        rows.clear()
        self.assertEqual(edges(middle())[0], ("top", "a"))


if __name__ == "__main__":
    unittest.main()
