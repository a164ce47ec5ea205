import random
import unittest

from growing import grown
from making import BARE, LEAST, LOOPED, NAMES, STEADY, TALL
from odd import odd_things
from running import ByWords, by_table, some_words
from trying import refusal

from seaplace.demand import run, trace

BOUNDS = (0, 1, 2, 255, 256, 32767, 32768, 65534, 65535)

# Both phis are set at once: they change places each time around.
TURNING = (
    (
        ("top", (), ("goto", "turn")),
        ("turn", (("out", 2), ("out", 3)), ("if", 4, "turn", "last")),
        ("last", (), ("return", 2)),
    ),
    (
        ("given", 0), ("given", 1), ("phi", "turn", (0, 3)), ("phi", "turn", (1, 2)), ("less", 5, 6),
        ("phi", "turn", (7, 8)), ("given", 2), ("word", 0), ("add", 5, 9), ("word", 1),
    ),
)

# A store in a loop: a load of the head's version has the word that was there ahead of it.
STORING = (
    (
        ("top", (("store", 0, 0, 1), ("store", 1, 2, 1)), ("goto", "loop")),
        ("loop", (("store", 0, 0, 5), ("out", 3), ("out", 6), ("out", 7)), ("if", 8, "loop", "last")),
        ("last", (("out", 9),), ("return", 3)),
    ),
    (
        ("given", 0), ("given", 1), ("given", 2), ("load", 0, 0, ("loop", 0)), ("word", 1), ("add", 3, 4),
        ("load", 0, 10, ("loop", 1)), ("load", 1, 2, ("top", 2)), ("less", 5, 11), ("load", 1, 0, ("top", 2)),
        ("and", 0, 12), ("given", 3), ("word", 7),
    ),
)


def one_block(deeds, end, nodes):
    """A graph of one block."""
    return ((("a", tuple(deeds), end),), tuple(nodes))


class Demands(unittest.TestCase):
    def test_operations(self):
        for kind in ("add", "sub", "mul", "and", "xor", "less", "same"):
            graph = one_block([], ("return", 2), [("given", 0), ("given", 1), (kind, 0, 1)])
            for one in BOUNDS:
                for other in BOUNDS:
                    told = run(graph, (one, other))
                    self.assertEqual(told, ((), ("returned", by_table(kind, (one, other)))))
        for kind in ("div", "rest"):
            graph = one_block([("check", 1)], ("return", 2), [("given", 0), ("given", 1), (kind, 0, 1)])
            for one in BOUNDS:
                for other in BOUNDS[1:]:
                    self.assertEqual(run(graph, (one, other)), ((), ("returned", by_table(kind, (one, other)))))
                self.assertEqual(run(graph, (one,)), ((), ("fault", "a", 0)))
        graph = one_block([], ("return", 3), [("given", 0), ("given", 1), ("given", 2), ("pick", 0, 1, 2)])
        for word, told in ((0, 9), (1, 8), (65535, 8)):
            self.assertEqual(run(graph, (word, 8, 9)), ((), ("returned", told)))

    def test_operations_by_hand(self):
        graph = one_block([("out", node) for node in range(2, 7)], ("return", 7), [
            ("word", 65535), ("word", 2), ("add", 0, 1), ("sub", 1, 0), ("mul", 0, 0), ("div", 0, 1), ("rest", 0, 1),
            ("xor", 0, 1),
        ])
        self.assertEqual(run(graph), ((1, 3, 1, 32767, 1), ("returned", 65533)))

    def test_given_words(self):
        graph = one_block([("out", node) for node in (3, 2, 1)], ("return", 0), [("given", node) for node in range(4)])
        self.assertEqual(run(graph), ((0, 0, 0), ("returned", 0)))
        self.assertEqual(run(graph, ()), ((0, 0, 0), ("returned", 0)))
        self.assertEqual(run(graph, (5,)), ((0, 0, 0), ("returned", 5)))
        self.assertEqual(run(graph=graph, given=(5, 6, 7, 8), most=1), ((8, 7, 6), ("returned", 5)))

    def test_ways(self):
        # The way that is gone where the word isn't 0 is the first one.
        self.assertEqual([row[0] for row in trace(BARE, (0,))], ["top", "loop"])
        self.assertEqual([row[0] for row in trace(BARE, (1,), most=4)], ["top", "side", "loop", "loop"])
        self.assertEqual(run(BARE, (0,)), ((0,), ("fault", "loop", 0)))
        self.assertEqual(run(BARE, (1,)), ((1,), ("stopped",)))
        self.assertEqual(run(BARE, (1,), most=2000), ((1,), ("stopped",)))
        self.assertEqual(len(trace(BARE, (1,))), 200)
        self.assertEqual(len(trace(BARE, (1,), most=2000)), 2000)

    def test_most(self):
        self.assertEqual(run(LEAST, most=1), ((), ("stopped",)))
        self.assertEqual(trace(LEAST, most=1), (("only", ()),))
        self.assertEqual(trace(LEAST, most=3), (("only", ()), ("next", ()), ("next", ())))
        # A run that ends in the last block that it may enter isn't stopped, nor one that faults there.
        self.assertEqual(run(TALL, most=12)[1], run(TALL)[1])
        self.assertEqual(run(TALL, most=12)[1][0], "returned")
        self.assertEqual(run(TALL, most=11)[1], ("stopped",))
        self.assertEqual([row[0] for row in trace(TALL, most=12)], list(NAMES))
        self.assertEqual(run(BARE, (0,), most=2), ((0,), ("fault", "loop", 0)))
        self.assertEqual(run(BARE, (0,), most=1), ((0,), ("stopped",)))

    def test_phis_at_once(self):
        self.assertEqual(run(TURNING, (5, 6, 0)), ((5, 6), ("returned", 5)))
        self.assertEqual(run(TURNING, (5, 6, 3)), ((5, 6, 6, 5, 5, 6, 6, 5), ("returned", 6)))
        self.assertEqual(trace(TURNING, (5, 6, 1)), (
            ("top", ()), ("turn", ((2, 5), (3, 6), (5, 0))), ("turn", ((2, 6), (3, 5), (5, 1))), ("last", ()),
        ))

    def test_versions(self):
        # Cell 13 is cell 5; node 10 is the given word and 7, so the same cell told by another word.
        told = run(STORING, (13, 65534, 21, 2))
        self.assertEqual(told, ((65534, 65535, 65534, 65534), ("returned", 65534)))
        told = run(STORING, (13, 3, 20, 6))
        self.assertEqual(told, ((3, 4, 3, 4, 5, 3, 5, 6, 3, 0), ("returned", 5)))
        told = run(STORING, (8, 3, 7))
        self.assertEqual(told, ((3, 4, 3, 0), ("returned", 3)))

    def test_regions_and_cells(self):
        nodes = [("given", 0), ("word", 8), ("add", 0, 1), ("word", 3), ("load", 0, 2, ("a", 1)),
                 ("load", 1, 0, ("a", 0)), ("load", 1, 0, ("a", 3)), ("load", 0, 0, ("a", 0)), ("word", 9)]
        deeds = [("store", 0, 0, 3), ("out", 4), ("store", 1, 2, 8), ("out", 5), ("out", 6)]
        graph = one_block(deeds, ("return", 7), nodes)
        for word in (0, 5, 7, 8, 65535):
            self.assertEqual(run(graph, (word,)), ((3, 0, 9), ("returned", 0)))

    def test_faults(self):
        deeds = [("out", 1), ("check", 1), ("check", 0), ("out", 1)]
        graph = one_block(deeds, ("return", 0), [("given", 0), ("word", 4)])
        self.assertEqual(run(graph), ((4,), ("fault", "a", 2)))
        self.assertEqual(run(graph, (1,)), ((4, 4), ("returned", 1)))

    def test_by_the_words_of_the_document(self):
        ends = {"stopped": 0, "fault": 0, "returned": 0}
        for seed in range(240):
            graph = grown(seed, blocks=6, deeds=4, nodes=12, wide=seed % 3 == 0)
            chance = random.Random(seed)
            for _ in range(3):
                given, most = some_words(chance), chance.choice((1, 2, 7, 60))
                due = ByWords(graph, given, most)
                self.assertEqual(run(graph, given, most=most), due.result())
                self.assertEqual(trace(graph, given, most=most), tuple(row[:2] for row in due.visits))
                ends[due.way[0]] += 1
        self.assertGreater(min(ends.values()), 40, ends)

    def test_refused(self):
        for ask in (run, trace):
            for thing in odd_things() + [[1, 2], (1, 2, 3, 4, 5), (0,) * 5, "ab"]:
                if not isinstance(thing, tuple) or len(thing) > 4:
                    self.assertEqual(refusal(ask, STEADY, thing, most=None), ("BadGiven", None))
                for at in range(4):
                    words = [1, 2, 3, None][:at] + [thing]
                    self.assertEqual(refusal(ask, STEADY, tuple(words), most=None), ("BadGiven", at))
            for thing in odd_things() + [0, 2001, "1"]:
                self.assertEqual(refusal(ask, STEADY, (), most=thing)[0], "OutOfPlace")
                self.assertEqual(refusal(ask, LOOPED, thing, most=thing), ("Unsound", 6))
                self.assertEqual(refusal(ask, (), thing, most=thing), ("BadGraph", None, None))
            for word in (65536, -1, True):
                self.assertEqual(refusal(ask, STEADY, (65535, word, -1)), ("BadGiven", 1))


if __name__ == "__main__":
    unittest.main()
