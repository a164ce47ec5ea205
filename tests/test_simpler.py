import random
import unittest

from growing import grown
from making import BARE, LEAST, LOOPED, STEADY, TALL
from odd import odd_things
from running import by_table, some_words
from test_alike import sound_doubles, tried_alike
from test_demand import STORING, TURNING, one_block
from trying import refusal

from seaplace.demand import run
from seaplace.graphs import inputs_of, is_graph, live_nodes
from seaplace.ranges import is_sound
from seaplace.simpler import folded, merged, simple, tidied

AT = {"out": (1,), "check": (1,), "store": (2, 3), "goto": (), "if": (1,), "return": (1,)}


def called(thing, names):
    """A node, a deed or an END in which nodes are called otherwise."""
    if thing[0] == "phi":
        return (*thing[:2], tuple(names[node] for node in thing[2]))
    at = AT.get(thing[0])
    if at is None:
        at = {"word": (), "given": (), "load": (2,), "pick": (1, 2, 3)}.get(thing[0], (1, 2))
    return tuple(names[part] if place in at else part for place, part in enumerate(thing))


def in_place(graph, names):
    """The graph in which live nodes, deeds and ENDs ask for others."""
    live = live_nodes(graph)
    blocks = tuple((name, tuple(called(deed, names) for deed in deeds), called(end, names))
                   for name, deeds, end in graph[0])
    return (blocks, tuple(called(thing, names) if node in live else thing for node, thing in enumerate(graph[1])))


def merged_by_words(graph):
    """The graph merged, by a trial of all pairs."""
    pairs = tried_alike(graph)
    names = list(range(len(graph[1])))
    for node in live_nodes(graph):
        names[node] = min(other for other in names if (node, other) in pairs)
    return in_place(graph, names)


def folded_by_words(graph):
    """The graph folded, one node at a time, and what was done to which."""
    steps = []
    while True:
        for node in live_nodes(graph):
            thing, inputs = graph[1][node], inputs_of(graph, node)
            words = [graph[1][one][1] for one in inputs if graph[1][one][0] == "word"]
            divides = thing[0] in ("div", "rest")
            if inputs and len(words) == len(inputs) and thing[0] not in ("phi", "load"):
                if not (divides and words[1] == 0):
                    nodes = list(graph[1])
                    nodes[node] = ("word", by_table(thing[0], words))
                    graph = (graph[0], tuple(nodes))
                    steps.append(("word", node))
                    break
            names = list(range(len(graph[1])))
            if thing[0] == "pick" and graph[1][inputs[0]][0] == "word":
                names[node] = inputs[1] if graph[1][inputs[0]][1] else inputs[2]
            if thing[0] == "phi" and len(set(inputs) - {node}) == 1:
                names[node] = (set(inputs) - {node}).pop()
            if names[node] != node:
                graph = in_place(graph, names)
                steps.append((thing[0], node))
                break
        else:
            return graph, steps


def tidied_by_words(graph):
    """The graph of the live nodes alone."""
    live = list(live_nodes(graph))
    names = {node: live.index(node) for node in live}
    blocks = tuple((name, tuple(called(deed, names) for deed in deeds), called(end, names))
                   for name, deeds, end in graph[0])
    return (blocks, tuple(called(graph[1][node], names) for node in live))


def simple_by_words(graph):
    """The graph folded, merged and tidied till that changes nothing more."""
    while True:
        after = tidied_by_words(merged_by_words(folded_by_words(graph)[0]))
        if after == graph:
            return graph
        graph = after


def some_graphs():
    """Sound graphs, with twins and with words."""
    found = sound_doubles(50, blocks=6, deeds=4, nodes=14)
    found += [grown(seed, blocks=6, deeds=4, nodes=18, wide=seed % 3 == 0) for seed in range(70)]
    return found + [STEADY, TALL, BARE, LEAST, STORING, TURNING]


class Simpler(unittest.TestCase):
    def test_by_the_words_of_the_document(self):
        changed, kinds = [0] * 4, set()
        for graph in some_graphs():
            fold, steps = folded_by_words(graph)
            kinds |= {kind for kind, _ in steps}
            self.assertEqual(folded(graph), fold)
            self.assertEqual(merged(graph), merged_by_words(graph))
            self.assertEqual(tidied(graph), tidied_by_words(graph))
            self.assertEqual(simple(graph), simple_by_words(graph))
            for at, function in enumerate((merged, folded, tidied, simple)):
                changed[at] += function(graph) != graph
        self.assertEqual(kinds, {"word", "pick", "phi"})
        self.assertTrue(all(many > 40 for many in changed), changed)

    def test_sound_and_runs_come_to_the_same(self):
        ends = set()
        for seed, graph in enumerate(some_graphs()):
            chance = random.Random(seed)
            for function in (merged, folded, tidied, simple):
                after = function(graph)
                self.assertTrue(is_graph(after))
                self.assertTrue(is_sound(after))
                for given in ((), some_words(chance), (65535,) * 4, (1, 2, 3)):
                    most = chance.choice((1, 5, 200))
                    told = run(after, given, most=most)
                    self.assertEqual(told, run(graph, given, most=most))
                    ends.add(told[1][0])
            after = simple(graph)
            for function in (merged, folded, tidied, simple):
                self.assertEqual(function(after), after)
        self.assertEqual(ends, {"returned", "fault", "stopped"})

    def test_merged_by_hand(self):
        graph = one_block([("out", 3), ("out", 4), ("store", 0, 1, 4)], ("return", 5), [
            ("given", 0), ("given", 0), ("word", 3), ("add", 0, 2), ("add", 2, 1), ("sub", 4, 1), ("sub", 4, 1)])
        self.assertEqual(merged(graph=graph), one_block([("out", 3), ("out", 3), ("store", 0, 0, 3)], ("return", 5), [
            ("given", 0), ("given", 0), ("word", 3), ("add", 0, 2), ("add", 2, 0), ("sub", 3, 0), ("sub", 4, 1)]))
        # ENDs and phis ask for the least node, too.
        graph = (
            (("top", (), ("if", 1, "one", "two")), ("one", (), ("goto", "two")), ("two", (), ("return", 2))),
            (("given", 1), ("given", 1), ("phi", "two", (1, 0))),
        )
        self.assertEqual(merged(graph), (
            (("top", (), ("if", 0, "one", "two")), *graph[0][1:]), (*graph[1][:2], ("phi", "two", (0, 0)))))

    def test_folded_by_hand(self):
        graph = one_block([("out", 2), ("out", 6)], ("return", 7), [
            ("word", 65535), ("word", 2), ("add", 0, 1), ("less", 2, 1), ("given", 0), ("pick", 3, 4, 8),
            ("pick", 4, 5, 2), ("pick", 9, 4, 8), ("given", 1), ("word", 0), ("add", 0, 1)])
        self.assertEqual(folded(graph=graph), one_block([("out", 2), ("out", 6)], ("return", 8), [
            ("word", 65535), ("word", 2), ("word", 1), ("word", 1), ("given", 0), ("pick", 3, 4, 8),
            ("pick", 4, 4, 2), ("pick", 9, 4, 8), ("given", 1), ("word", 0), ("add", 0, 1)]))
        # A pick all of whose inputs are words becomes a word itself; a load and a quotient by 0 don't.
        graph = one_block([("check", 2), ("out", 3), ("out", 4), ("out", 5)], ("return", 6), [
            ("word", 7), ("word", 3), ("word", 0), ("div", 0, 2), ("rest", 0, 2), ("pick", 2, 0, 1),
            ("load", 0, 0, ("a", 0))])
        after = folded(graph)[1]
        self.assertEqual(after, (*graph[1][:5], ("word", 3), graph[1][6]))
        for word, due in (("div", 2), ("rest", 1)):
            graph = one_block([], ("return", 2), [("word", 7), ("word", 3), (word, 0, 1)])
            self.assertEqual(folded(graph)[1][2], ("word", due))

    def test_phis_by_hand(self):
        blocks = (
            ("top", (), ("goto", "loop")), ("loop", (("out", 1), ("out", 2)), ("if", 0, "loop", "last")),
            ("last", (), ("return", 1)),
        )
        # A phi of one other node and itself goes; one of two words, or of a phi that has two, doesn't.
        graph = (blocks, (("given", 0), ("phi", "loop", (0, 1)), ("phi", "loop", (3, 4)), ("word", 5), ("word", 5)))
        told = folded(graph)
        self.assertEqual(told[0][1], ("loop", (("out", 0), ("out", 2)), ("if", 0, "loop", "last")))
        self.assertEqual(told[0][2], ("last", (), ("return", 0)))
        # Its own input is one of a live node, too.
        self.assertEqual(told[1], (("given", 0), ("phi", "loop", (0, 0)), *graph[1][2:]))
        # Simple is what is folded once more behind being merged.
        self.assertEqual(simple(graph), (
            (blocks[0], ("loop", (("out", 0), ("out", 1)), ("if", 0, "loop", "last")), ("last", (), ("return", 0))),
            (("given", 0), ("word", 5))))
        # Of words phis become no word, but the one node whose word they have stands in their place.
        graph = (blocks, (("given", 0), ("phi", "loop", (2, 2)), ("word", 9)))
        self.assertEqual(folded(graph)[1], (("given", 0), ("phi", "loop", (2, 2)), ("word", 9)))
        self.assertEqual(folded(graph)[0][2], ("last", (), ("return", 2)))

    def test_the_least_one_is_done_first(self):
        # The pick is done ahead of the sum that it waits for: what it picks stands in its place.
        graph = one_block([("out", 0)], ("return", 4), [
            ("pick", 1, 2, 3), ("word", 1), ("add", 1, 1), ("given", 0), ("add", 0, 1)])
        self.assertEqual(folded(graph), one_block([("out", 2)], ("return", 4), [
            ("pick", 1, 2, 3), ("word", 1), ("word", 2), ("given", 0), ("word", 3)]))
        # All inputs are words: it becomes one itself, though it could be passed on.
        graph = one_block([("out", 3)], ("return", 3), [("word", 1), ("word", 8), ("word", 9), ("pick", 0, 1, 2)])
        self.assertEqual(folded(graph), one_block([("out", 3)], ("return", 3), [
            ("word", 1), ("word", 8), ("word", 9), ("word", 8)]))

    def test_tidied_by_hand(self):
        graph = one_block([("store", 1, 4, 2)], ("return", 5), [
            ("word", 1), ("given", 0), ("add", 1, 4), ("add", 0, 2), ("given", 2), ("load", 1, 2, ("a", 1)),
            ("phi", "b", ())][:6])
        self.assertEqual(tidied(graph=graph), one_block([("store", 1, 2, 1)], ("return", 3), [
            ("given", 0), ("add", 0, 2), ("given", 2), ("load", 1, 1, ("a", 1))]))
        self.assertEqual(tidied(STEADY)[1], STEADY[1][:9])
        self.assertEqual(tidied(LEAST), LEAST)

    def test_refused(self):
        for function in (merged, folded, tidied, simple):
            for thing in odd_things():
                self.assertEqual(refusal(function, thing)[0], "BadGraph")
            self.assertEqual(refusal(function, LOOPED), ("Unsound", 6))


if __name__ == "__main__":
    unittest.main()
