import random
import unittest

from growing import grown
from making import BARE, LEAST, LOOPED, STEADY, TALL
from odd import odd_things
from running import ByWords, some_words
from trying import refusal

from seaplace.graphs import names_of
from seaplace.profiles import TOP, counts_of, counts_of_all


class Profiles(unittest.TestCase):
    def test_top(self):
        self.assertEqual(TOP, 999)

    def test_by_hand(self):
        self.assertEqual(counts_of(BARE, (0,)), {"top": 1, "side": 0, "loop": 1, "last": 0})
        self.assertEqual(list(counts_of(BARE, (0,))), ["top", "side", "loop", "last"])
        self.assertEqual(counts_of(BARE, (3,)), {"top": 1, "side": 1, "loop": 198, "last": 0})
        self.assertEqual(counts_of(graph=LEAST, given=(), most=1), {"only": 1, "next": 0})
        # What one run tells isn't cut.
        self.assertEqual(counts_of(LEAST, most=2000), {"only": 1, "next": 1999})
        self.assertEqual(counts_of(TALL), dict.fromkeys(names_of(TALL), 1))

    def test_of_several(self):
        self.assertEqual(counts_of_all(BARE, []), {"top": 0, "side": 0, "loop": 0, "last": 0})
        self.assertEqual(list(counts_of_all(BARE, ())), ["top", "side", "loop", "last"])
        self.assertEqual(counts_of_all(BARE, [(0,), (), (1,)], most=3), {"top": 3, "side": 1, "loop": 3, "last": 0})
        self.assertEqual(counts_of_all(BARE, ((3,),)), {"top": 1, "side": 1, "loop": 198, "last": 0})
        self.assertEqual(counts_of_all(LEAST, ((),), most=2000), {"only": 1, "next": 999})
        self.assertEqual(counts_of_all(LEAST, [()] * 11, most=100), {"only": 11, "next": 999})
        self.assertEqual(counts_of_all(LEAST, [()] * 10, most=100), {"only": 10, "next": 990})
        self.assertEqual(counts_of_all(graph=LEAST, givens=((), ()), most=100, top=50), {"only": 2, "next": 50})
        self.assertEqual(counts_of_all(LEAST, ((), ()), top=0), {"only": 0, "next": 0})
        self.assertEqual(counts_of_all(LEAST, ((), ()), top=1), {"only": 1, "next": 1})

    def test_by_the_words_of_the_document(self):
        for seed in range(60):
            graph = grown(seed, blocks=6, deeds=2, nodes=8)
            chance = random.Random(seed)
            givens = [some_words(chance) for _ in range(chance.randrange(4))]
            total = dict.fromkeys(names_of(graph), 0)
            for given in givens:
                names = [row[0] for row in ByWords(graph, given, 30).visits]
                self.assertEqual(counts_of(graph, given, most=30), {name: names.count(name) for name in total})
                total = {name: total[name] + names.count(name) for name in total}
            top = chance.choice((0, 3, 17, 999))
            told = counts_of_all(graph, tuple(givens), most=30, top=top)
            self.assertEqual(list(told.items()), [(name, min(top, total[name])) for name in names_of(graph)])

    def test_refused(self):
        for top in (1000, -1, True):
            self.assertEqual(refusal(counts_of_all, STEADY, [], top=top)[0], "OutOfPlace")
        for most in (0, 2001, True):
            self.assertEqual(refusal(counts_of, STEADY, most=most)[0], "OutOfPlace")
            self.assertEqual(refusal(counts_of_all, STEADY, [], most=most, top=-1)[0], "OutOfPlace")
        for thing in odd_things():
            self.assertEqual(refusal(counts_of, STEADY, (1, thing), most=0), ("BadGiven", 1))
            self.assertEqual(refusal(counts_of, LOOPED, thing), ("Unsound", 6))
            self.assertEqual(refusal(counts_of_all, LOOPED, thing, most=thing, top=thing), ("Unsound", 6))
            self.assertEqual(refusal(counts_of_all, thing, thing, most=thing, top=thing)[0], "BadGraph")
            if not isinstance(thing, (list, tuple)):
                self.assertEqual(refusal(counts_of_all, STEADY, thing, most=0, top=-1), ("BadGiven", None))
            if not isinstance(thing, tuple):
                self.assertEqual(refusal(counts_of_all, STEADY, [(1,), thing, (1, -1)], most=0), ("BadGiven", None))
            self.assertEqual(refusal(counts_of_all, STEADY, ((1,), (1, 2, -1), thing), most=0), ("BadGiven", 2))
            self.assertEqual(refusal(counts_of_all, STEADY, [], top=thing)[0], "OutOfPlace")
            self.assertEqual(refusal(counts_of, STEADY, most=thing)[0], "OutOfPlace")
            self.assertEqual(refusal(counts_of_all, STEADY, [], most=thing)[0], "OutOfPlace")
        self.assertEqual(refusal(counts_of_all, STEADY, ((0,) * 5, (-1,))), ("BadGiven", None))
        self.assertEqual(refusal(counts_of_all, STEADY, ((0,) * 4, (-1,))), ("BadGiven", 0))


if __name__ == "__main__":
    unittest.main()
