import itertools
import random
import unittest

from growing import grown
from making import BARE, LEAST, LOOPED, STEADY, TALL
from odd import odd_things
from test_demand import one_block
from trying import refusal

from seaplace.alike import are_alike, classes
from seaplace.graphs import inputs_of, is_graph, live_nodes, node_of
from seaplace.ranges import is_sound

CROSS = ("add", "mul", "and", "xor", "same")


def kind(graph, node):
    """The kind of a node."""
    thing = node_of(graph, node)
    beside = {"word": thing[1:2], "given": thing[1:2], "phi": thing[1:2], "load": (thing[1], thing[-1])}
    return (thing[0], beside.get(thing[0], ()))


def lone(graph, node):
    """Whether a node is a class by itself."""
    thing = node_of(graph, node)
    if thing[0] not in ("div", "rest"):
        return False
    by = node_of(graph, thing[2])
    return not (by[0] == "word" and by[1] != 0)


def matches(graph, one, other, are):
    """Whether all inputs of two nodes of one kind are alike, place by place or crosswise."""
    first, second = inputs_of(graph, one), inputs_of(graph, other)
    if all(are(a, b) for a, b in zip(first, second)):
        return True
    return node_of(graph, one)[0] in CROSS and are(first[0], second[1]) and are(first[1], second[0])


def tried_alike(graph):
    """All pairs of alike nodes: again and again those are left out that can't be."""
    nodes = live_nodes(graph)
    pairs = {
        (one, other) for one in nodes for other in nodes
        if one == other or kind(graph, one) == kind(graph, other) and not lone(graph, one) and not lone(graph, other)
    }
    while True:
        kept = {pair for pair in pairs if matches(graph, *pair, lambda a, b: (a, b) in pairs)}
        if kept == pairs:
            return pairs
        pairs = kept


def doubled(graph, seed):
    """A graph with some nodes once more, and asked for there, now and then crosswise: much of it is alike."""
    chance = random.Random(seed)
    blocks, nodes = graph
    nodes = list(nodes)
    for node in range(len(nodes)):
        thing = nodes[node]
        if len(nodes) < 40 and chance.random() < 0.7:
            copy = list(thing)
            if thing[0] in CROSS and chance.random() < 0.5:
                copy[1], copy[2] = copy[2], copy[1]
            nodes.append(tuple(copy))
    twins = {node: [one for one in range(len(nodes)) if twin(nodes[one], nodes[node])] for node in range(len(nodes))}
    changed = []
    for node, thing in enumerate(nodes):
        if thing[0] == "phi":
            changed.append((*thing[:2], tuple(chance.choice(twins[one]) for one in thing[2])))
        elif thing[0] in ("word", "given", "load", "div", "rest"):
            changed.append(thing)
        else:
            changed.append((thing[0], *(chance.choice(twins[one]) for one in thing[1:])))
    return (blocks, tuple(changed))


def twin(one, other):
    """Whether two nodes tell the same, perhaps crosswise."""
    return one == other or one[0] == other[0] and one[0] in CROSS and one[1:] == other[:0:-1]


def sound_doubles(many, **how):
    """Sound graphs with twins, by seeds."""
    found = []
    seed = 0
    while len(found) < many:
        graph = doubled(grown(seed, **how), seed)
        seed += 1
        if is_graph(graph) and is_sound(graph):
            found.append(graph)
    return found


class Alike(unittest.TestCase):
    def test_by_trial(self):
        alike, crossed = 0, 0
        graphs = sound_doubles(100, blocks=6, deeds=4, nodes=14)
        graphs += [grown(seed, blocks=6, deeds=4, nodes=16) for seed in range(60)]
        for graph in graphs:
            pairs = tried_alike(graph)
            told = classes(graph)
            self.assertIsInstance(told, tuple)
            due = {tuple(other for other in live_nodes(graph) if (one, other) in pairs) for one in live_nodes(graph)}
            self.assertEqual(told, tuple(sorted(due)))
            for one in live_nodes(graph)[::5]:
                for other in live_nodes(graph)[::3]:
                    self.assertIs(are_alike(graph, one, other), (one, other) in pairs)
            alike += len(live_nodes(graph)) - len(told)
            for nodes in told:
                crossed += any(node_of(graph, one)[0] in CROSS and inputs_of(graph, one) != inputs_of(graph, nodes[0])
                               for one in nodes)
        self.assertGreater(alike, 200)
        self.assertGreater(crossed, 10)

    def test_by_hand(self):
        graph = one_block(
            [("check", 0), ("out", 5), ("out", 6), ("out", 7), ("out", 8), ("out", 9)][:5], ("return", 10),
            [
                ("given", 0), ("given", 0), ("word", 3), ("word", 3), ("word", 4),
                ("add", 0, 2), ("add", 3, 1), ("sub", 0, 2), ("sub", 2, 0), ("sub", 1, 3), ("pick", 7, 9, 8),
            ])
        self.assertEqual(classes(graph), ((0, 1), (2, 3), (5, 6), (7, 9), (8,), (10,)))
        self.assertEqual(classes(graph=graph)[0], (0, 1))
        self.assertIs(are_alike(graph, 5, 6), True)
        self.assertIs(are_alike(graph=graph, one=7, other=8), False)
        self.assertIs(are_alike(graph, 7, 7), True)

    def test_each_kind(self):
        for word in ("add", "mul", "and", "xor", "same", "sub", "less"):
            graph = one_block([("out", 2), ("out", 3), ("out", 4)], ("return", 0), [
                ("given", 0), ("given", 1), (word, 0, 1), (word, 1, 0), (word, 0, 1)])
            crossed = word in CROSS
            self.assertIs(are_alike(graph, 2, 3), crossed)
            self.assertIs(are_alike(graph, 2, 4), True)
        # Of a pick no place may be changed with another one.
        graph = one_block([("out", 3), ("out", 4), ("out", 5)], ("return", 6), [
            ("given", 0), ("given", 1), ("given", 2), ("pick", 0, 1, 2), ("pick", 0, 2, 1), ("pick", 0, 1, 2),
            ("word", 0)])
        self.assertEqual(classes(graph), ((0,), (1,), (2,), (3, 5), (4,), (6,)))
        # Words, givens, loads by what they tell beside their inputs.
        graph = one_block(
            [("store", 0, 0, 1), ("store", 1, 2, 3), ("out", 4), ("out", 5), ("out", 6)], ("return", 7), [
                ("word", 1), ("word", 1), ("word", 2), ("given", 3), ("load", 0, 0, ("a", 1)),
                ("load", 0, 1, ("a", 1)), ("load", 1, 1, ("a", 2)), ("load", 0, 2, ("a", 1))])
        self.assertEqual(classes(graph), ((0, 1), (2,), (3,), (4, 5), (6,), (7,)))

    def test_lone(self):
        # By a word other than 0 quotients may be alike; by anything else they aren't.
        for by, alike in ((("word", 5), True), (("word", 65535), True), (("given", 0), False)):
            for word in ("div", "rest"):
                graph = one_block([("check", 1), ("out", 2), ("out", 3)], ("return", 0), [
                    ("given", 1), by, (word, 0, 1), (word, 0, 1)])
                self.assertIs(are_alike(graph, 2, 3), alike)
                self.assertIs(are_alike(graph, 2, 2), True)
                self.assertEqual(classes(graph)[2:], ((2, 3),) if alike else ((2,), (3,)))
        # A word 0 that is checked is never come behind; the quotients aren't alike.
        graph = one_block([("check", 1), ("out", 2), ("out", 3)], ("return", 0), [
            ("given", 1), ("word", 0), ("div", 0, 1), ("div", 0, 1)])
        self.assertIs(are_alike(graph, 2, 3), False)
        # What asks for quotients that aren't alike isn't, either.
        graph = one_block([("check", 1), ("out", 4), ("out", 5)], ("return", 0), [
            ("given", 1), ("given", 0), ("div", 0, 1), ("div", 0, 1), ("add", 2, 0), ("add", 3, 0)])
        self.assertIs(are_alike(graph, 4, 5), False)

    def test_phis_around_a_loop(self):
        # Both phis and all that is made of them are alike, though each waits for the other to be so.
        graph = (
            (("top", (), ("goto", "loop")), ("loop", (("out", 2), ("out", 3)), ("if", 4, "loop", "last")),
             ("last", (), ("return", 5))),
            (("given", 0), ("word", 1), ("phi", "loop", (0, 4)), ("phi", "loop", (0, 5)), ("add", 2, 1),
             ("add", 1, 3)),
        )
        self.assertEqual(classes(graph), ((0,), (1,), (2, 3), (4, 5)))
        other = (graph[0], graph[1][:3] + (("phi", "loop", (1, 5)),) + graph[1][4:])
        self.assertEqual(classes(other), ((0,), (1,), (2,), (3,), (4,), (5,)))
        # Phis of unlike blocks aren't alike.
        apart = (
            (("top", (), ("goto", "one")), ("one", (("out", 1),), ("goto", "two")),
             ("two", (("out", 2),), ("return", 0))),
            (("given", 0), ("phi", "one", (0,)), ("phi", "two", (0,))),
        )
        self.assertEqual(classes(apart), ((0,), (1,), (2,)))

    def test_edges(self):
        self.assertEqual(classes(LEAST), ())
        self.assertEqual(classes(BARE), ((0,), (1,)))
        self.assertEqual(len(classes(TALL)), 40)
        # Forty nodes of which twenty are the others' twins.
        nodes = [("word", 1), ("word", 1)]
        while len(nodes) < 40:
            nodes.append(("xor", len(nodes) - 2, len(nodes) - 1 - len(nodes) % 2))
        graph = one_block([("out", 38)], ("return", 39), nodes)
        self.assertEqual(classes(graph)[0], (0, 1))
        self.assertEqual(tried_alike(graph), {(a, b) for row in classes(graph) for a in row for b in row})
        # Only live ones are told.
        graph = one_block([], ("return", 0), [("word", 1), ("word", 1)])
        self.assertEqual(classes(graph), ((0,),))

    def test_refused(self):
        for thing in odd_things():
            self.assertEqual(refusal(classes, thing)[0], "BadGraph")
            self.assertEqual(refusal(are_alike, thing, thing, thing)[0], "BadGraph")
            self.assertEqual(refusal(are_alike, LOOPED, thing, thing), ("Unsound", 6))
            self.assertEqual(refusal(are_alike, STEADY, thing, None), ("NoNode", thing))
            self.assertEqual(refusal(are_alike, STEADY, 0, thing), ("NoNode", thing))
            # What is no node is told ahead of what isn't live.
            self.assertEqual(refusal(are_alike, STEADY, 9, thing), ("NoNode", thing))
        self.assertEqual(refusal(classes, LOOPED), ("Unsound", 6))
        for one, other in itertools.product(range(11), repeat=2):
            told = refusal(are_alike, STEADY, one, other)
            if 10 in (one, other):
                self.assertEqual(told, ("NoNode", 10))
            elif 9 in (one, other):
                self.assertEqual(told[0], "OutOfPlace")
            else:
                self.assertIsNone(told)


if __name__ == "__main__":
    unittest.main()
