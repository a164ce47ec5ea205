import random
import unittest

from growing import grown
from making import BARE, LEAST, LOOPED, STEADY
from odd import odd_things
from running import ByWords, some_words
from test_demand import STORING, TURNING, one_block
from trying import refusal

from seaplace.demand import run, trace
from seaplace.runpaper import check_run, run_paper

NONE = (0,) * 8


def with_part(thing, at, part):
    """A tuple with another part in one place."""
    return thing[:at] + (part,) + thing[at + 1:]


class RunPapers(unittest.TestCase):
    def refused(self, paper, place, given=(5, 6, 2), graph=TURNING, **more):
        self.assertEqual(refusal(check_run, graph, paper, given, **more), ("BadPaper", place), paper)

    def test_by_hand(self):
        paper = run_paper(TURNING, (5, 6, 0))
        self.assertEqual(paper, (
            ("top", (), ((0, 5), (1, 6), (7, 0)), (NONE, NONE)),
            ("turn", ((2, 5), (3, 6), (5, 0)), ((2, 5), (3, 6), (4, 0), (5, 0), (6, 0)), (NONE, NONE)),
            ("last", (), ((2, 5),), (NONE, NONE)),
        ))
        self.assertEqual(check_run(TURNING, paper, (5, 6, 0)), ((5, 6), ("returned", 5)))
        self.assertEqual(check_run(graph=TURNING, paper=paper, given=(5, 6, 0), most=3), ((5, 6), ("returned", 5)))

    def test_asked(self):
        # Of a run that is stopped ahead of a block its phis' inputs aren't asked for; the END is.
        self.assertEqual(run_paper(TURNING, (5, 6, 3), most=1), (("top", (), (), (NONE, NONE)),))
        self.assertEqual(run_paper(BARE, (1,), most=1), (("top", (), ((0, 1),), (NONE, NONE)),))
        self.assertEqual(run_paper(LEAST, most=2), (("only", (), (), (NONE, NONE)), ("next", (), (), (NONE, NONE))))
        # Deeds behind a fault ask for nothing, nor does the END; the check that faults does.
        graph = one_block([("out", 1), ("check", 0), ("out", 2)], ("return", 3),
                          [("given", 0), ("word", 4), ("word", 5), ("word", 6)])
        self.assertEqual(run_paper(graph), (("a", (), ((0, 0), (1, 4)), (NONE, NONE)),))
        # A pick asks for all its inputs, a phi for none.
        graph = one_block([], ("return", 3), [("given", 0), ("word", 4), ("word", 5), ("pick", 0, 1, 2)])
        self.assertEqual(run_paper(graph)[0][2], ((0, 0), (1, 4), (2, 5), (3, 5)))

    def test_cells_at_the_head(self):
        paper = run_paper(STORING, (13, 3, 20, 5))
        self.assertEqual([row[3] for row in paper], [
            (NONE, NONE), ((0, 0, 0, 0, 0, 3, 0, 0), (0, 0, 0, 0, 3, 0, 0, 0)),
            ((0, 0, 0, 0, 0, 4, 0, 0), (0, 0, 0, 0, 3, 0, 0, 0)), ((0, 0, 0, 0, 0, 5, 0, 0), (0, 0, 0, 0, 3, 0, 0, 0)),
        ])

    def test_by_the_words_of_the_document(self):
        for seed in range(120):
            graph = grown(seed, blocks=6, deeds=3, nodes=12)
            chance = random.Random(seed)
            for _ in range(2):
                given, most = some_words(chance), chance.choice((1, 2, 7, 40))
                due = ByWords(graph, given, most)
                paper = run_paper(graph, given, most=most)
                self.assertEqual(paper, due.paper())
                self.assertEqual(check_run(graph, paper, given, most=most), run(graph, given, most=most))
                self.assertEqual(tuple(row[:2] for row in paper), trace(graph, given, most=most))

    def test_no_tuple(self):
        for thing in odd_things() + [list(run_paper(TURNING, (5, 6, 2)))]:
            if not isinstance(thing, tuple):
                self.refused(thing, None)
        self.refused([], None, (), LEAST)

    def test_rows_left_out_twice_exchanged_too_many(self):
        paper = run_paper(TURNING, (5, 6, 2))
        self.assertEqual(len(paper), 5)
        for at, row in enumerate(paper):
            self.refused(paper[:at], at)
            self.refused(paper[:at] + paper[at + 1:], at)
            self.refused(paper[:at + 1] + paper[at:], at + 1)
            if at:
                self.refused(paper[:at - 1] + (row, paper[at - 1]) + paper[at + 1:], at - 1)
        self.refused(paper + (None,), 5)
        self.refused(paper + paper, 5)
        self.refused((), 0, (), LEAST)

    def test_another_run(self):
        paper = run_paper(TURNING, (5, 6, 2))
        self.refused(paper, 1, (5, 6, 1))
        self.refused(paper, 0, (4, 6, 2))
        self.refused(paper, 2, most=3)
        # The last row that is left tells what is asked where the run is stopped, or goes on.
        self.refused(paper[:3], 2, most=3)
        self.refused(run_paper(TURNING, (5, 6, 2), most=3), 2)
        self.refused(run_paper(LEAST, most=3), 3, (), LEAST)
        self.refused(run_paper(LEAST, most=5), 3, (), LEAST, most=3)

    def test_rows_of_another_form(self):
        paper = run_paper(TURNING, (5, 6, 2))
        for thing in odd_things():
            for at in (0, 1, 4):
                row = paper[at]
                self.refused(with_part(paper, at, thing), at)
                for part in range(4):
                    self.refused(with_part(paper, at, with_part(row, part, thing)), at)
                self.refused(with_part(paper, at, row + (thing,)), at)
                self.refused(with_part(paper, at, row[:3]), at)
                self.refused(with_part(paper, at, list(row)), at)
                self.refused(with_part(paper, at, with_part(row, 2, row[2] + (thing,))), at)
                self.refused(with_part(paper, at, with_part(row, 2, (thing,) + row[2][1:])), at)
                for one in ((thing, row[2][0][1]), (row[2][0][0], thing), list(row[2][0])):
                    self.refused(with_part(paper, at, with_part(row, 2, (one,) + row[2][1:])), at)
                for cells in ((thing, NONE), (NONE, thing), (NONE, NONE, NONE), (NONE,), ((thing,) + NONE[1:], NONE),
                              (NONE, NONE[1:]), (NONE, NONE + (0,)), [NONE, NONE], (list(NONE), NONE)):
                    self.refused(with_part(paper, at, with_part(row, 3, cells)), at)

    def test_words_changed(self):
        paper = run_paper(STORING, (1, 1, 0, 3))
        graph, given = STORING, (1, 1, 0, 3)
        for at, row in enumerate(paper):
            for part in (1, 2):
                for pair, (node, word) in enumerate(row[part]):
                    for one in ((node, word + 1), (node + 1, word), (node, bool(word)), (bool(node), word),
                                (node, word, 0), (node,)):
                        if (type(one[0]), type(one[-1])) == (int, int) or node < 2 or word < 2:
                            rows = with_part(row, part, with_part(row[part], pair, one))
                            self.refused(with_part(paper, at, rows), at, given, graph)
                left = with_part(row, part, row[part][:-1])
                if row[part]:
                    self.refused(with_part(paper, at, left), at, given, graph)
                    turned = with_part(row, part, row[part][::-1])
                    if len(row[part]) > 1:
                        self.refused(with_part(paper, at, turned), at, given, graph)
            for region in (0, 1):
                for cell in range(8):
                    word = row[3][region][cell]
                    for one in (word + 1, bool(word), None):
                        cells = with_part(row[3], region, with_part(row[3][region], cell, one))
                        self.refused(with_part(paper, at, with_part(row, 3, cells)), at, given, graph)

    def test_the_first_refusal(self):
        paper = run_paper(STEADY)
        self.assertIsNone(refusal(check_run, STEADY, paper))
        for thing in odd_things() + [[1]]:
            if not isinstance(thing, tuple):
                self.assertEqual(refusal(check_run, STEADY, None, thing, most=0), ("BadGiven", None))
                self.assertEqual(refusal(run_paper, STEADY, thing, most=0), ("BadGiven", None))
            self.assertEqual(refusal(check_run, STEADY, thing, (1, thing), most=0), ("BadGiven", 1))
            self.assertEqual(refusal(check_run, STEADY, thing, (), most=thing)[0], "OutOfPlace")
            self.assertEqual(refusal(run_paper, STEADY, most=thing)[0], "OutOfPlace")
            self.assertEqual(refusal(check_run, LOOPED, thing, thing, most=thing), ("Unsound", 6))
            self.assertEqual(refusal(run_paper, LOOPED, thing, most=thing), ("Unsound", 6))
            self.assertEqual(refusal(check_run, None, thing, thing, most=thing), ("BadGraph", None, None))


if __name__ == "__main__":
    unittest.main()
