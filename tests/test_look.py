"""The look at a graph, held against what the document says of it word by word."""

import random
import sys
import unittest

from growing import grown
from looking import fault_by_words
from making import LEAST, LOOPED, NAMES, STEADY, TALL, diamond, random_graph
from odd import odd_things
from trying import refusal

from seaplace.graphs import is_graph, need_graph

TEXTS = ("top", "a", "b", "Top", "abcdefghi", "", "out", "check", "store", "goto", "if", "return", "word", "given",
         "phi", "add", "div", "pick", "load", "\u00e9", "a1", "a b")


class Whole(int):
    """A whole number by another name."""


class Row(tuple):
    """A tuple by another name."""


OTHERS = (None, True, False, -1, 0, 1, 5, 6, 39, 40, 65535, 65536, 10 ** 30, (), [], {}, (0,), (0, 1), ("top", 0),
          ("top", True), ("top", 6), ("nowhere", 0), Whole(0), Whole(50), Row((0, 1)), b"a", object)


def changed(chance, thing):
    """A thing of which some part is another one, left out, twice or exchanged."""
    if not isinstance(thing, tuple) or not thing or chance.random() < 0.05:
        if isinstance(thing, int) and chance.random() < 0.6:
            return chance.choice((thing + 1, thing - 1, chance.randrange(41), Whole(thing), bool(thing)))
        return chance.choice(TEXTS if isinstance(thing, str) and chance.random() < 0.6 else OTHERS)
    at = chance.randrange(len(thing))
    kind = chance.randrange(14)
    if kind == 0:
        return thing[:at] + thing[at + 1:]
    if kind == 1:
        return thing[:at + 1] + thing[at:]
    if kind == 2:
        other = chance.choice(thing)
        return tuple(other if part == at else one for part, one in enumerate(thing))
    if kind == 3:
        return list(thing) if chance.random() < 0.5 else Row(thing)
    return thing[:at] + (changed(chance, thing[at]),) + thing[at + 1:]


# One of each: deeds, ENDs, nodes.
SMALL = (
    (
        ("top", (("out", 0), ("store", 0, 1, 2), ("check", 3)), ("if", 0, "a", "b")),
        ("a", (), ("goto", "b")),
        ("b", (), ("return", 4)),
    ),
    (("word", 1), ("given", 0), ("phi", "b", (0, 1)), ("add", 1, 2), ("pick", 1, 2, 3), ("load", 1, 0, ("top", 3)),
     ("rest", 0, 0)),
)


def places_in(thing):
    """The places of all parts, tuples of numbers."""
    if not isinstance(thing, tuple):
        return [()]
    return [()] + [(at, *rest) for at, part in enumerate(thing) for rest in places_in(part)]


def with_thing(whole, place, thing):
    """A tuple with another thing in a place."""
    if not place:
        return thing
    at = place[0]
    return whole[:at] + (with_thing(whole[at], place[1:], thing),) + whole[at + 1:]


def with_rings(chance):
    """A graph but for the rings among its nodes, if there are some."""
    many = chance.randint(1, 14)
    nodes = []
    for node in range(many):
        asked = [chance.randrange(node) if node and chance.random() < 0.9 else chance.randrange(many) for _ in range(3)]
        nodes.append(chance.choice((
            ("word", 1), ("phi", "b", (asked[0],)), ("load", 0, asked[0], ("a", 0)), ("pick", *asked),
            ("add", *asked[:2]), ("add", *asked[:2]), ("sub", *asked[:2]),
        )))
    return ((("a", (), ("goto", "b")), ("b", (), ("return", 0))), tuple(nodes))


def large(turned):
    """Twelve blocks of eight letters, five deeds each, and forty nodes that each ask for the one ahead, or behind."""
    names = [name * 8 for name in "abcdefghijkl"]
    blocks = []
    for at, name in enumerate(names):
        deeds = (("out", at), ("store", 0, at, 39), ("check", 39 - at), ("out", 20), ("store", 1, at + 5, at))
        end = ("if", at, *names[at + 1:at + 3]) if at < 10 else ("goto", names[11]) if at == 10 else ("return", 39)
        blocks.append((name, deeds, end))
    nodes = [("word", 1)]
    for node in range(1, 40):
        asked = [node - 1, max(0, node - 2), 0]
        nodes.append([("add", *asked[:2]), ("pick", *asked), ("load", 0, asked[0], (names[3], 5))][node % 3])
    if turned:
        nodes = [tuple(39 - part if isinstance(part, int) and (thing[0] != "load" or place == 2) else part
                       for place, part in enumerate(thing)) for thing in reversed(nodes)]
        nodes[-1] = ("word", 1)
    return (tuple(blocks), tuple(nodes))


class Looks(unittest.TestCase):
    def same(self, thing):
        due = fault_by_words(thing)
        self.assertEqual(refusal(need_graph, thing), None if due is None else ("BadGraph", *due))
        self.assertIs(is_graph(thing), due is None)
        return due

    def test_word_by_word(self):
        told = {}
        for seed in range(500):
            chance = random.Random(seed)
            graph = chance.choice((LOOPED, STEADY, LEAST, diamond(), random_graph(seed), grown(seed, nodes=12)))
            self.assertIsNone(self.same(graph))
            for _ in range(8):
                thing = graph
                for _ in range(chance.choice((1, 1, 1, 2, 3))):
                    thing = changed(chance, thing)
                due = self.same(thing)
                told[due and due[0]] = told.get(due and due[0], 0) + 1
        for part in (None, "blocks", "nodes", "ends"):
            self.assertGreater(told[part], 100, told)

    def test_odd_things_everywhere(self):
        for place in places_in(SMALL):
            for thing in odd_things() + ["out", "top", 0, 7]:
                self.same(with_thing(SMALL, place, thing))

    def test_rings_word_by_word(self):
        told = {None: 0, "rings": 0}
        for seed in range(1500):
            due = self.same(with_rings(random.Random(seed)))
            told[due and due[0]] += 1
        self.assertGreater(min(told.values()), 300, told)

    def test_large_ones(self):
        for graph in (large(False), large(True), TALL):
            self.assertIsNone(self.same(graph))
            chance = random.Random(1)
            for _ in range(60):
                self.same(changed(chance, graph))
            nodes = list(graph[1])
            for node in range(40):
                wrong = nodes[:node] + [("xor", node, 0)] + nodes[node + 1:]
                self.same((graph[0], tuple(wrong)))
                self.same((graph[0], tuple(nodes[:node] + [("mul", 39 - node, node)] + nodes[node + 1:])))

    def test_blocks_that_are_not_reached(self):
        for at in range(1, 11):
            blocks = list(TALL[0])
            blocks[at - 1] = (NAMES[at - 1], (), ("return", 0))
            self.assertEqual(self.same((tuple(blocks), TALL[1])), ("reached", at))
            blocks[-1] = (NAMES[-1], (), ("goto", NAMES[at]))
            self.assertEqual(self.same((tuple(blocks), TALL[1])), ("reached", at))

    def test_a_look_calls_few_functions(self):
        # Each function looks at its graph whole: so it must be done by few steps. Calls are the same on any machine.
        for graph, most in ((large(False), 350), (large(True), 350), (TALL, 350), (STEADY, 100)):
            is_graph(graph)
            self.assertLess(calls_of(is_graph, graph), most)


def calls_of(function, *things):
    """How many functions written in Python are called, itself among them."""
    told = []
    ahead = sys.getprofile()
    sys.setprofile(lambda frame, event, _: told.append(event))
    try:
        function(*things)
    finally:
        sys.setprofile(ahead)
    return told.count("call")


if __name__ == "__main__":
    unittest.main()
