import unittest

from making import LEAST, LOOPED, NAMES, diamond, random_graph, ways_by_hand
from odd import deep, odd_things

from seaplace.errors import BadGraph, NoBlock, NoNode
from seaplace.graphs import (
    block_of, fixed_uses, floating_nodes, inputs_of, is_graph, is_slot, live_nodes, names_of, need_graph, node_of,
    predecessors, slots_of, ways_of,
)

WORD = ("word", 7)
END = ("return", 0)


def blocks_in_row(many):
    """So many blocks, one behind the other."""
    names = [chr(ord("a") + at) for at in range(many)]
    blocks = [(name, (), ("goto", after)) for name, after in zip(names, names[1:])]
    return (*blocks, (names[-1], (), END))


def one_block(*deeds, nodes=(WORD,), end=END):
    """A graph of one block."""
    return ((("top", tuple(deeds), end),), nodes)


def two_ways(second, *nodes, last=()):
    """A branch by node 0, and a second block as told."""
    return ((("top", (), ("if", 0, "a", "b")), second, ("b", (), END), *last), (("given", 0), *nodes))


class Forms(unittest.TestCase):
    def refused(self, thing, part, number):
        self.assertIs(is_graph(thing), False)
        with self.assertRaises(BadGraph) as caught:
            need_graph(thing)
        self.assertEqual((caught.exception.part, caught.exception.number), (part, number))
        self.assertNotIsInstance(caught.exception.number, bool)

    def good(self, thing):
        self.assertIs(is_graph(thing), True)
        self.assertIsNone(need_graph(thing))

    def test_good_ones(self):
        for graph in (LOOPED, LEAST, diamond(), one_block()):
            self.good(graph)
        for seed in range(200):
            self.good(random_graph(seed))

    def test_nothing_but_an_end(self):
        self.good(((("a", (), ("goto", "b")), ("b", (), ("goto", "b"))), ()))
        self.refused(((("a", (), END),), ()), "blocks", 0)

    def test_no_pair(self):
        for thing in odd_things():
            if not (isinstance(thing, tuple) and len(thing) == 2):
                self.refused(thing, None, None)
        blocks, nodes = LOOPED
        for thing in ([blocks, nodes], (blocks,), (blocks, nodes, ()), {0: blocks, 1: nodes}, (), "ab"):
            self.refused(thing, None, None)

    def test_no_tuple_of_so_many_blocks(self):
        self.good((blocks_in_row(1), (WORD,)))
        self.good((blocks_in_row(12), (WORD,)))
        for blocks in ((), blocks_in_row(13), list(blocks_in_row(2)), None, "ab", {}, 1, True, deep(0)):
            self.refused((blocks, (WORD,)), "blocks", None)

    def test_no_tuple_of_so_many_nodes(self):
        blocks = blocks_in_row(1)
        self.good((blocks, (WORD,) * 40))
        for nodes in ((WORD,) * 41, [WORD], None, "ab", {}, 1, True):
            self.refused((blocks, nodes), "nodes", None)

    def test_blocks_are_looked_at_ahead_of_nodes(self):
        self.refused(((), [WORD]), "blocks", None)
        self.refused((((),), [WORD]), "nodes", None)
        self.refused((((),), (None,)), "blocks", 0)

    def test_form_of_a_block(self):
        good = ("b", (), END)
        wrong = (
            None, (), "b", ["b", (), END], ("b", ()), ("b", (), END, ()), ("B", (), END), ("", (), END),
            ("abcdefghi", (), END), (1, (), END), (True, (), END), (("b",), (), END), ("b", [], END),
            ("b", None, END), ("b", (("out", 0),) * 6, END), ("b", (), ()), ("b", (), None), ("b", (), "return"),
            ("b", (), ["return", 0]), ("b", (), ("return",)), ("b", (), ("return", 0, 0)), ("b", (), ("halt", 0)),
            ("b", (), ("return", 1)), ("b", (), ("return", -1)), ("b", (), ("return", True)),
            ("b", (), ("return", "0")), ("b", (), ("return", 10 ** 5000)), ("b", (), (deep(), 0)),
            ("b", (), ("goto",)), ("b", (), ("goto", "A")), ("b", (), ("goto", "b", "b")), ("b", (), ("goto", 0)),
            ("b", (), ("goto", True)), ("b", (), ("if", 0, "b")), ("b", (), ("if", 1, "a", "b")),
            ("b", (), ("if", 0, "b", "")), ("b", (), ("if", "a", "b", 0)), ("b", (), ("if", 0, "a", "b", "c")),
            ("b", (), ("out", 0)), ("b", (), WORD), ("b", (), (None, 0)), ("b", (), ([], 0)), deep(),
        )
        ahead = ("a", (), ("goto", "b"))
        self.good(((ahead, good), (WORD,)))
        for block in wrong:
            self.refused(((ahead, block), (WORD,)), "blocks", 1)
            self.refused(((block, good), (WORD,)), "blocks", 0)

    def test_form_of_a_deed(self):
        good = (("out", 0), ("store", 0, 0, 0), ("store", 1, 0, 0), ("check", 0))
        for deed in good:
            self.good(one_block(deed))
        self.good(one_block(*[("out", 0)] * 5))
        wrong = (
            None, (), "out", ["out", 0], ("out",), ("out", 1), ("out", -1), ("out", True), ("out", False),
            ("out", None), ("out", 0, 0), ("out", 10 ** 5000), ("store", 2, 0, 0), ("store", -1, 0, 0),
            ("store", True, 0, 0), ("store", 0, 1, 0), ("store", 0, 0, 1), ("store", 0, 0), ("store", 0, 0, 0, 0),
            ("store", 0, 0, False), ("check",), ("check", 1), ("check", 0, 0), ("goto", "top"), ("return", 0), WORD,
            ("put", 0), (0, 0), (deep(), 0), deep(), ({}, 0),
        )
        for deed in wrong:
            self.refused(one_block(deed), "blocks", 0)
            self.refused(one_block(("out", 0), ("check", 0), deed), "blocks", 0)

    def test_a_name_twice(self):
        same = ("a", (), END)
        self.refused((((same[0], (), ("goto", "a")), same), (WORD,)), "blocks", 1)
        blocks = (*blocks_in_row(3)[:2], ("c", (), ("goto", "d")), ("b", (), END), ("d", (), None))
        self.refused((blocks, (WORD,)), "blocks", 3)

    def test_ends(self):
        self.refused(((("a", (), ("goto", "c")), ("b", (), END)), (WORD,)), "ends", 0)
        self.refused(((("a", (), ("goto", "b")), ("b", (), ("goto", "a"))), (WORD,)), "ends", 1)
        self.refused(((("a", (), ("goto", "a")),), (WORD,)), "ends", 0)
        self.refused(((("a", (), ("if", 0, "b", "b")), ("b", (), END)), (WORD,)), "ends", 0)
        self.refused(((("a", (), ("goto", "b")), ("b", (), ("if", 0, "b", "a"))), (WORD,)), "ends", 1)
        self.refused(((("a", (), ("goto", "b")), ("b", (), ("if", 0, "nowhere", "b"))), (WORD,)), "ends", 1)
        self.good(((("a", (), ("goto", "b")), ("b", (), ("goto", "b"))), (WORD,)))

    def test_reached(self):
        self.refused(((("a", (), END), ("b", (), END)), (WORD,)), "reached", 1)
        blocks = (("a", (), ("goto", "c")), ("b", (), ("goto", "b")), ("c", (), END), ("d", (), ("goto", "c")))
        self.refused((blocks, (WORD,)), "reached", 1)
        self.refused(((*blocks[:1], *blocks[2:]), (WORD,)), "reached", 2)

    def test_form_of_a_node(self):
        kinds = ("add", "sub", "mul", "and", "xor", "less", "same", "div", "rest")
        good = [("word", 0), ("word", 65535), ("given", 0), ("given", 3), ("pick", 0, 0, 0), ("load", 0, 0, ("top", 0))]
        good.extend((kind, 0, 0) for kind in kinds)
        good.append(("load", 1, 0, ("top", 1)))
        for node in good:
            self.good(one_block(("out", 0), nodes=(WORD, node)))
        wrong = [
            None, (), "word", ["word", 1], ("word",), ("word", 65536), ("word", -1), ("word", True), ("word", "1"),
            ("word", 1, 1), ("word", 10 ** 5000), ("given", 4), ("given", -1), ("given", False), ("given",),
            ("given", 0, 0), ("pick", 0, 0), ("pick", 0, 0, 3), ("pick", 0, 0, 0, 0), ("pick", True, 0, 0),
            ("load", 0, 0), ("load", 2, 0, ("top", 0)), ("load", True, 0, ("top", 0)), ("load", 0, 3, ("top", 0)),
            ("load", 0, 0, ("top", 2)), ("load", 0, 0, ("top", -1)), ("load", 0, 0, ("top", True)),
            ("load", 0, 0, ("nowhere", 0)), ("load", 0, 0, ["top", 0]), ("load", 0, 0, ("top",)),
            ("load", 0, 0, ("top", 0, 0)), ("load", 0, 0, "top", 0), ("load", 0, 0, None),
            ("load", 0, 0, (deep(), 0)), ("load", 0, 0, deep()), ("out", 0), ("return", 0), ("block", "top"),
            ("phi", "top", ()), ("phi", "top", (0,)), ("phi", "nowhere", (0,)), ("neg", 0), (0, 0), (deep(),), ({},),
        ]
        wrong.extend((kind, 0) for kind in kinds)
        wrong.extend((kind, 0, 0, 0) for kind in kinds)
        wrong.extend((kind, 0, 3) for kind in kinds)
        wrong.extend((kind, -1, 0) for kind in kinds)
        wrong.extend((kind, True, 0) for kind in kinds)
        for node in wrong:
            self.refused(one_block(("out", 0), nodes=(WORD, node)), "nodes", 1)
            self.refused(one_block(("out", 0), nodes=(WORD, node, None)), "nodes", 1)

    def test_form_of_a_phi(self):
        blocks = diamond()[0]
        given = ("given", 0)
        for inputs in ((0, 0), (1, 0), (1, 1), (2, 0)):
            self.good((blocks, (given, ("phi", "foot", inputs), WORD)))
        self.good((blocks, (given, ("phi", "left", (0,)), WORD)))
        wrong = (
            ("phi", "foot", (0,)), ("phi", "foot", (0, 0, 0)), ("phi", "foot", ()), ("phi", "foot", [0, 0]),
            ("phi", "foot", 0, 0), ("phi", "foot"), ("phi", "foot", (0, 3)), ("phi", "foot", (0, -1)),
            ("phi", "foot", (0, True)), ("phi", "left", (0, 0)), ("phi", "top", ()), ("phi", "none", (0,)),
            ("phi", "FOOT", (0, 0)), ("phi", 3, (0, 0)), ("phi", "foot", None), ("phi", "foot", "ab"),
            ("phi", deep(), (0, 0)), ("phi", "foot", (0, deep())), ("phi", "foot", (0, 0), ()),
        )
        for node in wrong:
            self.refused((blocks, (given, node, WORD)), "nodes", 1)

    def test_rings(self):
        self.refused(one_block(nodes=(WORD, ("add", 1, 0))), "rings", 1)
        self.refused(one_block(nodes=(WORD, ("add", 0, 2), ("sub", 1, 0))), "rings", 1)
        self.refused(one_block(nodes=(WORD, ("pick", 0, 0, 3), ("mul", 0, 0), ("add", 2, 1))), "rings", 1)
        loaded = ("load", 0, 2, ("top", 0))
        self.refused(one_block(nodes=(WORD, loaded, ("add", 0, 1))), "rings", 1)
        self.refused(one_block(nodes=(("add", 0, 0),)), "rings", 0)

    def test_a_ring_is_told_by_a_node_in_it(self):
        nodes = (WORD, ("add", 2, 0), ("add", 3, 3), ("add", 2, 0))
        self.refused(one_block(nodes=nodes), "rings", 2)
        nodes = (WORD, ("add", 2, 0), ("add", 3, 3), ("add", 4, 0), ("xor", 2, 2), ("add", 5, 5))
        self.refused(one_block(nodes=nodes), "rings", 2)

    def test_no_ring_by_a_phi(self):
        blocks = diamond()[0]
        self.good((blocks, (("given", 0), ("phi", "foot", (2, 0)), ("add", 1, 1))))
        self.good((blocks, (("given", 0), ("phi", "foot", (1, 1)))))
        self.refused((blocks, (("given", 0), ("phi", "foot", (2, 0)), ("add", 1, 3), ("add", 2, 1))), "rings", 2)

    def test_the_first_of_two_is_told(self):
        bad_end = ((("a", (), ("goto", "nowhere")), ("b", (), ("return", 9))), (None,))
        self.refused(bad_end, "blocks", 1)
        self.refused(((("a", (), ("goto", "nowhere")), ("b", (), END)), (None,)), "ends", 0)
        self.refused(((("a", (), END), ("b", (), END)), (None,)), "reached", 1)
        self.refused(((("a", (), END), ("b", (), ("goto", "a"))), (WORD,)), "ends", 1)
        self.refused(one_block(nodes=(("add", 0, 0), None)), "nodes", 1)
        self.refused(one_block(("out", 2), nodes=(WORD, None)), "blocks", 0)

    def test_inside_of_anything(self):
        blocks, nodes = diamond()
        for thing in odd_things():
            self.refused(((*blocks[:2], thing, blocks[3]), nodes), "blocks", 2)
            self.refused((blocks, (*nodes, thing)), "nodes", 1)
            self.refused(((("top", (thing,), END),), nodes), "blocks", 0)
            self.refused(((("top", (), thing),), nodes), "blocks", 0)


class Questions(unittest.TestCase):
    def test_names_and_blocks(self):
        self.assertEqual(names_of(LOOPED), ("top", "head", "left", "right", "foot", "done"))
        self.assertEqual(block_of(LOOPED, "right"), ("right", (("out", 6),), ("goto", "foot")))
        self.assertEqual(node_of(LOOPED, 2), ("phi", "head", (0, 5)))

    def test_ways_and_predecessors(self):
        self.assertEqual(ways_of(LOOPED, "top"), ("head",))
        self.assertEqual(ways_of(LOOPED, "head"), ("left", "right"))
        self.assertEqual(ways_of(LOOPED, "done"), ())
        self.assertEqual(predecessors(LOOPED, "top"), ())
        self.assertEqual(predecessors(LOOPED, "head"), ("top", "foot"))
        self.assertEqual(predecessors(LOOPED, "foot"), ("left", "right"))
        self.assertEqual(predecessors(LEAST, "next"), ("only", "next"))

    def test_ways_in_the_order_of_the_end_and_predecessors_in_that_of_blocks(self):
        graph = two_ways(("a", (), ("goto", "b")))
        self.assertEqual(ways_of(graph, "top"), ("a", "b"))
        turned = ((("top", (), ("if", 0, "b", "a")), *graph[0][1:]), graph[1])
        self.assertEqual(ways_of(turned, "top"), ("b", "a"))
        self.assertEqual(predecessors(turned, "b"), ("top", "a"))

    def test_inputs(self):
        told = {0: (), 1: (), 2: (0, 5), 3: (2, 1), 4: (2,), 5: (2, 8), 7: (3, 2, 1)}
        for node, inputs in told.items():
            self.assertEqual(inputs_of(LOOPED, node), inputs)

    def test_slots(self):
        told = (
            ("top", 0), ("top", 1), ("head", 0), ("left", 0), ("left", 1), ("left", 2), ("right", 0), ("right", 1),
            ("foot", 0), ("done", 0), ("done", 1), ("done", 2), ("done", 3), ("done", 4), ("done", 5),
        )
        self.assertEqual(slots_of(LOOPED), told)
        for slot in told:
            self.assertIs(is_slot(LOOPED, slot), True)
        for thing in odd_things():
            self.assertIs(is_slot(LOOPED, thing), False)
        for thing in (("top", 2), ("head", 1), ("done", 6), ("top", "0"), ("top", None), (0, "top")):
            self.assertIs(is_slot(LOOPED, thing), False)

    def test_live_and_floating(self):
        self.assertEqual(live_nodes(LOOPED), (0, 1, 2, 3, 4, 5, 6, 7, 8))
        self.assertEqual(floating_nodes(LOOPED), (0, 3, 4, 5, 6, 7, 8))
        self.assertEqual(live_nodes(LEAST), ())
        self.assertEqual(floating_nodes(diamond()), ())

    def test_live_by_phis_alone(self):
        blocks = diamond()[0]
        nodes = (("phi", "foot", (2, 1)), ("given", 1), ("add", 3, 1), ("word", 5), ("sub", 0, 0))
        graph = (blocks, nodes)
        self.assertEqual(live_nodes(graph), (0, 1, 2, 3))
        self.assertEqual(floating_nodes(graph), (2, 3))

    def test_fixed_uses(self):
        told = (
            (("done", 0), 2), (("done", 1), 3), (("done", 2), 2), (("done", 2), 3), (("done", 3), 2), (("done", 3), 3),
            (("done", 4), 7), (("done", 5), 2), (("foot", 0), 5), (("head", 0), 3), (("left", 0), 4),
            (("left", 1), 2), (("left", 1), 4), (("right", 0), 6), (("top", 0), 0), (("top", 0), 1), (("top", 1), 0),
        )
        self.assertEqual(fixed_uses(LOOPED), told)

    def test_fixed_uses_of_phis_stand_in_last_slots_of_predecessors(self):
        blocks = (
            ("top", (), ("if", 0, "b", "a")),
            ("b", (("out", 0), ("out", 0)), ("goto", "c")),
            ("a", (), ("goto", "c")),
            ("c", (("out", 1),), ("return", 0)),
        )
        nodes = (("given", 0), ("phi", "c", (2, 3)), ("word", 1), ("word", 2), ("phi", "c", (2, 2)))
        told = ((("a", 0), 3), (("b", 0), 0), (("b", 1), 0), (("b", 2), 2), (("c", 0), 1), (("c", 1), 0), (("top", 0), 0))
        self.assertEqual(fixed_uses((blocks, nodes)), told)
        self.assertEqual(live_nodes((blocks, nodes)), (0, 1, 2, 3))

    def test_no_block_and_no_node(self):
        for thing in odd_things():
            for ask in (block_of, ways_of, predecessors):
                with self.assertRaises(NoBlock) as caught:
                    ask(LOOPED, thing)
                self.assertIs(caught.exception.name, thing)
            for ask in (node_of, inputs_of):
                with self.assertRaises(NoNode) as caught:
                    ask(LOOPED, thing)
                self.assertIs(caught.exception.node, thing)
        for node in (10, 40, "0", (0,)):
            with self.assertRaises(NoNode) as caught:
                node_of(LOOPED, node)
            self.assertEqual(caught.exception.node, node)
        self.assertEqual(node_of(LOOPED, 9), ("mul", 1, 1))
        with self.assertRaises(NoNode):
            node_of(LEAST, 0)

    def test_many_by_hand(self):
        for seed in range(100):
            graph = random_graph(seed)
            ways = ways_by_hand(graph)
            for name in names_of(graph):
                self.assertIn(name, NAMES)
                self.assertEqual(ways_of(graph, name), ways[name])
                self.assertEqual(predecessors(graph, name), tuple(one for one in ways if name in ways[one]))
            self.assertEqual(set(floating_nodes(graph)), {
                node for node in live_nodes(graph) if node_of(graph, node)[0] not in ("phi", "given")
            })
            self.assertEqual(fixed_uses(graph), tuple(sorted(set(fixed_uses(graph)))))
            self.assertLessEqual({node for _, node in fixed_uses(graph)}, set(live_nodes(graph)))


if __name__ == "__main__":
    unittest.main()
