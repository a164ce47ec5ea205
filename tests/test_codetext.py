import random
import unittest

from coding import ROWS, below, some_code
from growing import grown
from making import STEADY
from odd import odd_things
from test_coderun import around
from test_placedrun import some_placements
from test_placements import EARLY
from trying import refusal

from seaplace.code import code_of
from seaplace.codetext import code_text, read_code

# A row of each kind as told at number 5, and what can't stand in each of its words.
TOLD = (
    ("5 enter top", ("name",)),
    ("5 word r3 65535", ("register", 65536)),
    ("5 given r0 3", ("register", 4)),
    *[(f"5 {kind} r1 r2 r63", ("register",) * 3) for kind in
      ("add", "sub", "mul", "and", "xor", "less", "same", "div", "rest")],
    ("5 pick r1 r2 r3 r4", ("register",) * 4),
    ("5 load r1 1 r3", ("register", 2, "register")),
    ("5 store 1 r2 r3", (2, "register", "register")),
    ("5 out r5", ("register",)),
    ("5 check r5 top 4", ("register", "name", 5)),
    ("5 move r5 r6", ("register", "register")),
    ("5 goto 8", ("row",)),
    ("5 if r5 8 0", ("register", "row", "row")),
    ("5 return r5", ("register",)),
)
AHEAD = [f"{at} enter a" for at in range(9)]


def with_row(row, at=5):
    """A text of nine rows with this one."""
    return "\n".join(AHEAD[:at] + [row] + AHEAD[at + 1:])


class CodeTexts(unittest.TestCase):
    def test_each_kind_of_row(self):
        for (row, _), (text, parts) in zip(ROWS, TOLD):
            code = around(row)
            self.assertEqual(code_text(code), with_row(text))
            self.assertEqual(read_code(with_row(text)), code)
            words = text.split(" ")
            for at in range(len(words)):
                # A word left out, one twice, one that can't stand there, one too many.
                changed = words[:at] + words[at + 1:]
                place = at + 1
                if changed[at:at + 1] == words[at:at + 1]:
                    continue
                told = refusal(read_code, with_row(" ".join(changed)))
                if at < 2 or at == len(words) - 1:
                    self.assertEqual(told, ("BadRow", 6, place))
                else:
                    self.assertEqual(told[:2], ("BadRow", 6))
            self.assertEqual(refusal(read_code, with_row(text + " r1")), ("BadRow", 6, len(words) + 1))
            self.assertEqual(refusal(read_code, with_row(text + " 0")), ("BadRow", 6, len(words) + 1))
            for blank in (" " + text, text + " ", text.replace(" ", "  ", 1), "", " "):
                self.assertEqual(refusal(read_code, with_row(blank)), ("BadRow", 6, 0))
            for at, kind in enumerate(parts, 2):
                self.words_there(words, at, kind)

    def words_there(self, words, at, kind):
        """Words that can and can't stand at a place."""
        wrong = ["-1", "+1", "01", "1.0", "r", "r01", "r-1", "r64", "rr1", "R1", "A", "a1", "100000", "0x1", "r100000",
                 "r+1"]
        right = []
        if kind == "name":
            wrong += ["abcdefghi", "1"]
            right = ["a", "abcdefgh", "r"]
            wrong.remove("r")
        elif kind == "register":
            wrong += ["1", "x", "a"]
            right = ["r0", "r9", "r10", "r63"]
        elif kind == "row":
            wrong += ["2000", "99999", "r1", "a"]
            right = ["0", "6", "8"]
        else:
            wrong += [str(kind), "99999", "r0", "a"]
            right = ["0", str(kind - 1)]
        for word in wrong:
            if kind == "name" and word.isalpha() and word.islower() and len(word) < 9:
                continue
            changed = words[:at] + [word] + words[at + 1:]
            self.assertEqual(refusal(read_code, with_row(" ".join(changed))), ("BadRow", 6, at + 1), changed)
            # Of two words the first one is told.
            changed = changed[:at + 1] + ["?"] * 5
            self.assertEqual(refusal(read_code, with_row(" ".join(changed))), ("BadRow", 6, at + 1))
        for word in right:
            text = with_row(" ".join(words[:at] + [word] + words[at + 1:]))
            self.assertEqual(code_text(read_code(text)), text)
        self.assertEqual(refusal(read_code, with_row(" ".join(words[:at]))), ("BadRow", 6, at + 1))

    def test_numbers_of_rows(self):
        for number in ("4", "6", "05", "r5", "x", "-5", "5.", "50000", "enter"):
            self.assertEqual(refusal(read_code, with_row(f"{number} enter a")), ("BadRow", 6, 1))
        self.assertEqual(refusal(read_code, "1 enter a"), ("BadRow", 1, 1))
        self.assertEqual(refusal(read_code, "enter a"), ("BadRow", 1, 1))
        self.assertEqual(refusal(read_code, "0 enter a\n0 enter a"), ("BadRow", 2, 1))
        for word in ("", "ended", "Enter", "node", "block", "r1", "1"):
            self.assertEqual(refusal(read_code, with_row(f"5 {word}".strip())), ("BadRow", 6, 2))
        # Rows exchanged, left out, twice.
        code = (("enter", "a"), ("out", 1), ("word", 1, 7), ("goto", 0))
        rows = code_text(code).split("\n")
        self.assertEqual(refusal(read_code, "\n".join([rows[0], rows[2], rows[1], rows[3]])), ("BadRow", 2, 1))
        self.assertEqual(refusal(read_code, "\n".join([rows[0], *rows[2:]])), ("BadRow", 2, 1))
        self.assertEqual(refusal(read_code, "\n".join([rows[0], *rows])), ("BadRow", 2, 1))

    def test_texts_of_the_document(self):
        rows = ["0 enter top", "1 enter a", "2 enter b", "3 add r2 r0 r1", "4 check r2 top 0", "5 if r2 6 9",
                "6 load r1 0 r2", "7 out r1", "8 out r1", "9 return r2"]
        code = read_code("\n".join(rows))
        self.assertEqual(code[3:7], (("add", 2, 0, 1), ("check", 2, "top", 0), ("if", 2, 6, 9), ("load", 1, 0, 2)))
        self.assertEqual(code_text(code=code), "\n".join(rows))

    def test_jumps_are_looked_at_behind_all_rows(self):
        rows = ["0 enter a", "1 goto 9", "2 if r0 1 0", "3 out r1"]
        self.assertEqual(refusal(read_code, "\n".join(rows)), ("BadRow", 2, 3))
        self.assertEqual(refusal(read_code, "\n".join(rows[:3] + ["3 out r64"])), ("BadRow", 4, 3))
        self.assertEqual(refusal(read_code, "\n".join([rows[0], "1 goto 2", *rows[2:]])), ("BadRow", 3, 4))
        self.assertEqual(refusal(read_code, "\n".join([rows[0], "1 goto 2", "2 if r0 0 2", rows[3]])), ("BadRow", 3, 5))
        self.assertEqual(refusal(read_code, "\n".join([rows[0], "1 goto 2", "2 if r0 4 2", rows[3]])), ("BadRow", 3, 4))
        self.assertIsNone(refusal(read_code, "\n".join([rows[0], "1 goto 2", "2 if r0 3 0", rows[3]])))
        self.assertEqual(refusal(read_code, "0 goto 0"), ("BadRow", 1, 3))
        self.assertEqual(refusal(read_code, "0 goto 1"), ("BadRow", 1, 3))
        self.assertEqual(refusal(read_code, "0 goto 1999"), ("BadRow", 1, 3))
        self.assertEqual(refusal(read_code, "0 goto 2000"), ("BadRow", 1, 3))
        self.assertEqual(refusal(read_code, "0 goto 2000\nx"), ("BadRow", 1, 3))
        self.assertEqual(refusal(read_code, "0 goto 1999\nx"), ("BadRow", 2, 1))

    def test_how_many_rows(self):
        self.assertEqual(read_code(""), ())
        self.assertEqual(code_text(()), "")
        self.assertEqual(read_code("0 out r0"), (("out", 0),))
        rows = [f"{at} out r{at % 64}" for at in range(2002)]
        text = "\n".join(rows[:2000])
        self.assertEqual(code_text(read_code(text)), text)
        self.assertEqual(refusal(read_code, "\n".join(rows[:2001])), ("BadRow", 2001, 0))
        self.assertEqual(refusal(read_code, "\n".join(rows)), ("BadRow", 2001, 0))
        self.assertEqual(refusal(read_code, "\n".join(["0 goto 0", *rows[1:2001]])), ("BadRow", 2001, 0))
        self.assertEqual(refusal(read_code, "\n".join([*rows[:1999], "1999 out", rows[2000]])), ("BadRow", 2000, 3))
        self.assertEqual(refusal(read_code, text + "\n"), ("BadRow", 2001, 0))
        self.assertEqual(refusal(read_code, "\n"), ("BadRow", 1, 0))
        self.assertEqual(refusal(read_code, "0 out r0\n"), ("BadRow", 2, 0))

    def test_back_and_forth(self):
        for seed in range(600):
            code = some_code(seed)
            self.assertEqual(read_code(code_text(code)), code)
        for seed in range(60):
            graph = grown(seed, blocks=6, deeds=3, nodes=12)
            for placement in some_placements(graph, random.Random(seed))[:2]:
                code = code_of(graph, placement)
                self.assertEqual(read_code(text=code_text(code)), code)

    def test_refused(self):
        for thing in odd_things() + [("0 out r0",), b"0 out r0"]:
            if not isinstance(thing, str):
                self.assertEqual(refusal(read_code, thing), ("BadRow", 0, 0))
            if thing != ((), ()):
                self.assertEqual(refusal(code_text, thing)[0], "BadCode")
        self.assertEqual(refusal(code_text, (("out", 1), ("out", 64))), ("BadCode", 1))
        self.assertEqual(refusal(code_text, [("out", 1)]), ("BadCode", None))
        self.assertEqual(refusal(code_text, code_of(STEADY, EARLY)), None)
        self.assertEqual(below("register"), 64)


if __name__ == "__main__":
    unittest.main()
