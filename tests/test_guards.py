import unittest

from making import LOOPED, diamond, random_graph, slot_over, ways_by_hand
from odd import odd_things

from seaplace.errors import BadGraph, NoNode, OutOfPlace
from seaplace.graphs import node_of, slots_of
from seaplace.guards import guards_of, is_guarded

# The way where node 0 isn't 0 has one predecessor, the other one two.
UNEVEN = (
    (
        ("top", (), ("if", 0, "deep", "both")),
        ("deep", (("out", 1), ("check", 1), ("check", 1)), ("goto", "both")),
        ("both", (("check", 2), ("check", 3)), ("if", 1, "last", "deeper")),
        ("last", (), ("return", 0)),
        ("deeper", (), ("return", 0)),
    ),
    (("given", 0), ("given", 1), ("word", 0), ("word", 7)),
)


class Guards(unittest.TestCase):
    def test_ways_of_an_if(self):
        self.assertEqual(guards_of(UNEVEN, 0), (("deep", 0),))
        self.assertEqual(guards_of(diamond(), 0), (("left", 0),))
        turned = ((("top", (), ("if", 0, "both", "deep")), *UNEVEN[0][1:]), UNEVEN[1])
        self.assertEqual(guards_of(turned, 0), ())

    def test_checks(self):
        self.assertEqual(guards_of(UNEVEN, 1), (("deep", 2), ("deep", 3), ("last", 0)))
        self.assertEqual(guards_of(UNEVEN, 2), (("both", 1),))
        self.assertEqual(guards_of(graph=LOOPED, node=3), (("left", 0), ("done", 2)))
        self.assertEqual(guards_of(LOOPED, 4), (("left", 1),))
        self.assertEqual(guards_of(LOOPED, 9), ())

    def test_the_way_comes_ahead_of_checks_there(self):
        blocks = (("top", (("check", 0),), ("if", 0, "a", "b")), ("a", (("check", 0),), ("goto", "b")),
                  ("b", (), ("return", 0)))
        self.assertEqual(guards_of((blocks, (("given", 0),)), 0), (("top", 1), ("a", 0), ("a", 1)))

    def test_an_if_that_leads_back(self):
        # The edge leads from another block, or from the block itself: there must be one predecessor alone.
        self.assertEqual(guards_of(LOOPED, 5), ())
        graph = ((("top", (), ("goto", "a")), ("a", (), ("if", 0, "a", "b")), ("b", (), ("return", 0))), (("given", 0),))
        self.assertEqual(guards_of(graph, 0), ())

    def test_guarded(self):
        told = {
            ("top", 0): False, ("deep", 0): False, ("deep", 1): False, ("deep", 2): True, ("deep", 3): True,
            ("both", 0): False, ("both", 2): False, ("last", 0): True, ("deeper", 0): False,
        }
        for slot, holds in told.items():
            self.assertIs(is_guarded(UNEVEN, 1, slot), holds)
            self.assertIs(is_guarded(graph=UNEVEN, node=1, slot=slot), holds)

    def test_words(self):
        for slot in slots_of(UNEVEN):
            self.assertIs(is_guarded(UNEVEN, 3, slot), True)
        self.assertEqual(guards_of(UNEVEN, 3), (("both", 2),))
        self.assertIs(is_guarded(UNEVEN, 2, ("both", 0)), False)
        self.assertIs(is_guarded(UNEVEN, 2, ("top", 0)), False)
        self.assertIs(is_guarded(UNEVEN, 2, ("both", 1)), True)
        self.assertIs(is_guarded(UNEVEN, 2, ("last", 0)), True)

    def test_many_by_hand(self):
        for seed in range(80):
            graph = random_graph(seed)
            ways = ways_by_hand(graph)
            for node in range(0, len(graph[1]), 3):
                told = []
                for name, deeds, _ in graph[0]:
                    ahead = [block for block in graph[0] if name in ways[block[0]]]
                    if len(ahead) == 1 and ahead[0][2][0] == "if" and ahead[0][2][1] == node and ahead[0][2][2] == name:
                        told.append((name, 0))
                    told.extend((name, at + 1) for at, deed in enumerate(deeds) if deed == ("check", node))
                self.assertEqual(guards_of(graph, node), tuple(told))
                word = node_of(graph, node)
                sure = word[0] == "word" and word[1] > 0
                for slot in slots_of(graph)[::4]:
                    holds = sure or any(slot_over(graph, one, slot) for one in told)
                    self.assertIs(is_guarded(graph, node, slot), holds)

    def test_refused(self):
        for thing in odd_things() + [10, "0"]:
            for ask in (lambda: guards_of(LOOPED, thing), lambda: is_guarded(LOOPED, thing, thing)):
                with self.assertRaises(NoNode) as caught:
                    ask()
                self.assertIs(caught.exception.node, thing)
            with self.assertRaises(OutOfPlace):
                is_guarded(LOOPED, 0, thing)
            for ask in (lambda: guards_of((), thing), lambda: is_guarded(thing, thing, thing)):
                with self.assertRaises(BadGraph):
                    ask()


if __name__ == "__main__":
    unittest.main()
