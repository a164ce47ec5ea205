import random
import unittest

from coding import PAIRED, ROWS, below, gone_through, some_code
from odd import odd_things
from running import by_table, some_words
from trying import refusal

from seaplace.coderun import is_code, need_code, run_code


def around(row, at=5, many=9):
    """Code of so many rows with a row at a place; all others enter blocks."""
    rows = [("enter", "a")] * many
    rows[at] = row
    return tuple(rows)


class CodeRuns(unittest.TestCase):
    def good(self, code):
        self.assertIs(is_code(code), True)
        self.assertIsNone(need_code(code))

    def bad(self, code, row):
        self.assertIs(is_code(code), False)
        self.assertEqual(refusal(need_code, code), ("BadCode", row))
        # Ahead of all else.
        self.assertEqual(refusal(run_code, code, None, most=None), ("BadCode", row))

    def test_each_kind_of_row(self):
        for row, parts in ROWS:
            self.good(around(row))
            self.assertEqual(len(row), len(parts) + 1)
            for at, kind in enumerate(parts, 1):
                wrong = odd_things() + [-1, True, False, None, "1", "r1", (1,)]
                if kind == "name":
                    wrong = [thing for thing in wrong if thing != "nowhere"] + ["abcdefghi", "A", "", "a1", 1]
                    for name in ("a", "abcdefgh", "nowhere"):
                        self.good(around(row[:at] + (name,) + row[at + 1:]))
                elif kind == "row":
                    wrong += [9, 2000, 5]
                    for to in (0, 4, 6, 8):
                        self.good(around(row[:at] + (to,) + row[at + 1:]))
                else:
                    wrong += ["a", below(kind)]
                    for part in (0, 1, below(kind) - 1):
                        self.good(around(row[:at] + (part,) + row[at + 1:]))
                for thing in wrong:
                    self.bad(around(row[:at] + (thing,) + row[at + 1:]), 5)
            for at in range(len(row)):
                self.bad(around(row[:at] + row[at + 1:]), 5)
            for more in (0, None, "a"):
                self.bad(around((*row, more)), 5)
            for thing in odd_things() + ["ended", "block", "Enter", "r1", "", "node", "fault"]:
                if thing not in [kind for (kind, *_), _ in ROWS]:
                    self.bad(around((thing, *row[1:])), 5)
            self.bad(around(list(row)), 5)

    def test_what_are_no_rows(self):
        for thing in odd_things() + ["enter", ("enter",), ("divided", 1), (), ("goto",)]:
            self.bad(around(thing), 5)
            self.bad((thing, None), 0)
            if not isinstance(thing, tuple):
                self.bad(thing, None)
        self.bad([("enter", "a")], None)
        self.bad({0: ("enter", "a")}, None)
        # The first one is told.
        self.bad(around(("out", 64), 2) + (None,), 2)
        self.bad((("goto", 3), ("out", -1), ("enter", "a")), 0)
        self.bad((("out", 1), ("goto", 0), None), 1)

    def test_how_many(self):
        self.good(())
        self.good((("out", 0),))
        self.good((("enter", "a"),) * 2000)
        self.bad((("enter", "a"),) * 2001, None)
        self.bad((None,) * 2001, None)
        self.good((("goto", 1999),) + (("enter", "a"),) * 1999)
        self.bad((("goto", 2000),) + (("enter", "a"),) * 1999, 0)

    def test_jumps(self):
        # Back to an enter row, to another one, to itself, behind the end.
        code = (("enter", "a"), ("out", 1), ("enter", "b"), ("goto", 0))
        self.good(code)
        self.good(code[:3] + (("goto", 2),))
        self.bad(code[:3] + (("goto", 1),), 3)
        self.bad(code[:3] + (("goto", 3),), 3)
        self.bad(code[:3] + (("goto", 4),), 3)
        self.bad(code[:3] + (("if", 0, 0, 3),), 3)
        self.bad(code[:3] + (("if", 0, 3, 0),), 3)
        self.bad(code[:3] + (("if", 0, 1, 0),), 3)
        self.bad(code[:3] + (("if", 0, 4, 0),), 3)
        self.good(code[:3] + (("if", 0, 0, 0),))
        self.good(code[:3] + (("if", 0, 4, 4), ("out", 1)))
        self.good((("goto", 1), ("out", 1)))
        self.bad((("goto", 0),), 0)
        self.bad((("goto", 1),), 0)
        # A forward jump may come to any row, be it what it may.
        for row, _ in ROWS:
            self.good((("enter", "a"), ("if", 1, 2, 2)) + around(row, 6)[2:])

    def test_runs_of_all_kinds(self):
        ends = set()
        for seed in range(2500):
            chance = random.Random(seed)
            code, given, most = some_code(seed), some_words(chance), chance.choice((1, 2, 9, 200))
            self.good(code)
            told = run_code(code, given, most=most)
            self.assertEqual(told, gone_through(code, given, most))
            ends.add(told[1][0])
        self.assertEqual(ends, {"returned", "fault", "stopped", "divided", "ended"})

    def test_operations(self):
        bounds = (0, 1, 2, 7, 255, 256, 32768, 65535)
        for kind in PAIRED:
            for one in bounds:
                for other in bounds:
                    code = (("word", 5, one), ("word", 6, other), (kind, 5, 5, 6), ("return", 5))
                    due = ("divided", 2)
                    if other or kind not in ("div", "rest"):
                        due = ("returned", by_table(kind, [one, other]))
                    self.assertEqual(run_code(code), ((), due))
        for word in bounds:
            code = (("word", 0, word), ("word", 1, 8), ("word", 2, 9), ("pick", 0, 0, 1, 2), ("return", 0))
            self.assertEqual(run_code(code), ((), ("returned", 8 if word else 9)))
            code = (("word", 0, word), ("word", 1, 8), ("word", 2, 9), ("pick", 3, 0, 1, 2), ("out", 0), ("return", 3))
            self.assertEqual(run_code(code), ((word,), ("returned", 8 if word else 9)))
            code = (("word", 0, word), ("if", 0, 2, 3), ("return", 0), ("out", 0), ("return", 1))
            self.assertEqual(run_code(code), ((), ("returned", word)) if word else ((0,), ("returned", 0)))
            code = (("word", 0, word), ("out", 0), ("check", 0, "abc", 4), ("out", 0))
            self.assertEqual(run_code(code), ((word, word), ("ended",)) if word else ((0,), ("fault", "abc", 4)))

    def test_cells_and_registers_are_0_at_first(self):
        self.assertEqual(run_code((("out", 63), ("load", 5, 1, 4), ("out", 5))), ((0, 0), ("ended",)))
        code = (
            ("word", 1, 65535), ("word", 2, 7), ("word", 3, 9), ("store", 1, 1, 3), ("load", 4, 1, 2), ("out", 4),
            ("load", 4, 0, 2), ("out", 4), ("store", 0, 2, 1), ("load", 4, 0, 1), ("out", 4), ("load", 4, 1, 1),
            ("out", 4), ("load", 4, 0, 3), ("return", 4),
        )
        self.assertEqual(run_code(code), ((9, 0, 65535, 9), ("returned", 0)))

    def test_given(self):
        code = tuple(("given", at, at) for at in range(4)) + tuple(("out", at) for at in range(4))
        for many in range(5):
            given = (5, 6, 7, 65535)[:many]
            self.assertEqual(run_code(code=code, given=given), (given + (0,) * (4 - many), ("ended",)))
        self.assertEqual(run_code(code), ((0,) * 4, ("ended",)))

    def test_stopped(self):
        code = (("enter", "a"), ("out", 0), ("goto", 0))
        for most in (1, 2, 200, 2000):
            self.assertEqual(run_code(code, most=most), ((0,) * most, ("stopped",)))
        self.assertEqual(run_code(code), ((0,) * 200, ("stopped",)))
        # As many blocks as may be entered, and the end behind them.
        self.assertEqual(run_code((("enter", "a"), ("enter", "b")), most=2), ((), ("ended",)))
        self.assertEqual(run_code((("enter", "a"), ("enter", "b")), most=1), ((), ("stopped",)))
        self.assertEqual(run_code((("enter", "a"), ("return", 3)), most=1), ((), ("returned", 0)))
        self.assertEqual(run_code((("enter", "a"),) * 2000, most=2000), ((), ("ended",)))
        self.assertEqual(run_code((("enter", "a"),) * 2000, most=1999), ((), ("stopped",)))

    def test_ended(self):
        self.assertEqual(run_code(()), ((), ("ended",)))
        self.assertEqual(run_code((("goto", 1), ("out", 0))), ((0,), ("ended",)))
        self.assertEqual(run_code((("if", 0, 1, 2), ("out", 0), ("word", 0, 0))), ((), ("ended",)))

    def test_divided(self):
        for kind in ("div", "rest"):
            code = (("enter", "a"), ("word", 1, 5), ("out", 1), (kind, 1, 1, 0), ("out", 1))
            self.assertEqual(run_code(code), ((5,), ("divided", 3)))
        code = (("word", 1, 17), ("word", 2, 5), ("div", 3, 1, 2), ("rest", 2, 1, 2), ("out", 3), ("return", 2))
        self.assertEqual(run_code(code), ((3,), ("returned", 2)))

    def test_long_runs(self):
        # Two thousand times around two thousand rows.
        for row in (("add", 1, 2, 3), ("div", 1, 3, 3), ("check", 3, "a", 1), ("goto", None), ("if", 0, 0, None)):
            rows = [("enter", "a"), ("word", 3, 7)]
            while len(rows) < 1999:
                rows.append(tuple(len(rows) + 1 if part is None else part for part in row))
            code = (*rows, ("goto", 0))
            self.assertEqual(run_code(code, most=2000), ((), ("stopped",)))

    def test_refused(self):
        code = (("enter", "a"), ("given", 0, 1), ("return", 0))
        for thing in odd_things():
            self.assertEqual(refusal(run_code, code, (1, thing), most=thing), ("BadGiven", 1))
            self.assertEqual(refusal(run_code, code, (1, 65536), most=thing), ("BadGiven", 1))
            self.assertEqual(refusal(run_code, code, (1, 2), most=thing)[0], "OutOfPlace")
            if not isinstance(thing, tuple):
                self.assertEqual(refusal(run_code, code, thing, most=thing), ("BadGiven", None))
        self.assertEqual(refusal(run_code, code, (0,) * 5), ("BadGiven", None))
        for most in (0, 2001, "1"):
            self.assertEqual(refusal(run_code, code, most=most)[0], "OutOfPlace")
            self.assertEqual(refusal(run_code, (), most=most)[0], "OutOfPlace")


if __name__ == "__main__":
    unittest.main()
