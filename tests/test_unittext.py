import unittest

from making import BARE, LEAST, LOOPED, STEADY, TALL
from odd import odd_things
from test_unit import some_unit, state
from trying import refusal

from seaplace.costs import default_profile
from seaplace.graphtext import graph_text
from seaplace.unit import Unit
from seaplace.unitread import read_unit
from seaplace.unittext import unit_text

GRAPH = "block top\nif 0 left right\nblock left\ngoto right\nblock right\nout 1\nreturn 1\nnode given 0\nnode word 7"
TEXT = "unit 3\ncounts 9 0 999\npin 1 right 0\n" + GRAPH
ROWS = TEXT.split("\n")


def with_rows(at, *rows, of=1):
    """The text with these rows in the place of so many."""
    return "\n".join(ROWS[:at] + list(rows) + ROWS[at + of:])


class UnitTexts(unittest.TestCase):
    def row(self, text, row, word):
        self.assertEqual(refusal(read_unit, text), ("BadRow", row, word), text)

    def test_by_hand(self):
        unit = read_unit(text=TEXT)
        self.assertEqual(unit.pins(), ((1, ("right", 0)),))
        self.assertEqual(unit.profile(), {"top": 9, "left": 0, "right": 999})
        self.assertEqual(list(unit.profile()), ["top", "left", "right"])
        self.assertEqual((unit.hold(), len(unit), unit.log()), (3, 0, []))
        self.assertEqual(graph_text(unit.graph()), GRAPH)
        self.assertEqual(str(unit), TEXT)
        self.assertEqual(unit_text(graph=unit.graph(), profile=unit.profile(), pins=unit.pins(), hold=3), TEXT)
        # A profile is told in the order of blocks, whatever its own.
        self.assertEqual(unit_text(unit.graph(), {"right": 999, "top": 9, "left": 0}, unit.pins(), 3), TEXT)
        unit = read_unit("unit 0\ncounts 1 2\n" + graph_text(LEAST))
        self.assertEqual(state(unit), (LEAST, {"only": 1, "next": 2}, (), 0))

    def test_back_and_forth(self):
        for graph in (STEADY, TALL, BARE, LEAST):
            text = unit_text(graph, default_profile(graph), (), 9)
            self.assertEqual(str(read_unit(text)), text)
            self.assertTrue(read_unit(text) == Unit(graph, hold=9))
        pinned = 0
        for seed in range(120):
            unit, _ = some_unit(seed, blocks=6, deeds=3, nodes=12)
            self.assertEqual(state(read_unit(str(unit))), state(unit))
            self.assertTrue(read_unit(str(unit)) == unit)
            pinned += bool(unit.pins())
        self.assertGreater(pinned, 60)

    def test_unit_row(self):
        for hold in range(10):
            self.assertEqual(read_unit(with_rows(0, f"unit {hold}")).hold(), hold)
        for word in ("10", "99999", "-1", "01", "x", "1.0", "+1"):
            self.row(with_rows(0, f"unit {word}"), 1, 2)
            self.row(with_rows(0, f"unit {word} 1"), 1, 2)
        self.row(with_rows(0, "unit"), 1, 2)
        self.row(with_rows(0, "unit 1 1"), 1, 3)
        self.row(with_rows(0, "unit 1 x y"), 1, 3)
        for word in ("Unit", "units", "counts", "block", "pin", "1"):
            self.row(with_rows(0, f"{word} 1"), 1, 1)
        for row in ("", " ", " unit 1", "unit 1 ", "unit  1"):
            self.row(with_rows(0, row), 1, 0)
        self.row(with_rows(0), 1, 1)
        self.row(with_rows(0, "unit 3", "unit 3"), 2, 1)

    def test_counts_row(self):
        for word in ("1000", "99999", "-1", "01", "x", ""):
            self.row(with_rows(1, f"counts 1 {word} 3".replace("  ", " ") if word else "counts 1  3"),
                     2, 3 if word else 0)
        self.row(with_rows(1, "counts"), 2, 2)
        self.row(with_rows(1, "counts x"), 2, 2)
        self.row(with_rows(1, "count 1 2 3"), 2, 1)
        self.row(with_rows(1), 2, 1)
        self.row(with_rows(1, "counts 1 2 3", "counts 1 2 3"), 3, 1)
        # Twelve by their form, and one more; not as many as blocks.
        for many in range(1, 13):
            told = refusal(read_unit, with_rows(1, "counts" + " 5" * many))
            self.assertEqual(told, None if many == 3 else ("BadProfile", None))
        self.row(with_rows(1, "counts" + " 5" * 13), 2, 14)
        self.row(with_rows(1, "counts" + " 5" * 12 + " x"), 2, 14)
        self.row(with_rows(1, "counts" + " 5" * 11 + " x 5"), 2, 13)
        # Behind it a row that isn't a pin's is the graph's.
        self.assertEqual(state(read_unit(with_rows(2)))[2], ())

    def test_pin_rows(self):
        for row, word in (
            ("pin", 2), ("pin 1", 3), ("pin 1 right", 4), ("pin 1 right 0 0", 5), ("pin x right 0", 2),
            ("pin -1 right 0", 2), ("pin 01 right 0", 2), ("pin 100000 right 0", 2), ("pin 1 Right 0", 3),
            ("pin 1 1 0", 3), ("pin 1 abcdefghi 0", 3), ("pin 1 right x", 4), ("pin 1 right 00", 4),
            ("pin x 1 x", 2), ("pin 1 1 x", 3), ("pin 1 right x x", 4),
        ):
            self.row(with_rows(2, row), 3, word)
            self.row(with_rows(2, ROWS[2], row), 4, word)
        for row in ("pin  1 right 0", "pin 1 right 0 ", " pin 1 right 0", "pin ", ""):
            self.row(with_rows(2, row), 3, 0)
        for row in ("pins 1 right 0", "pin1 right 0", "Pin 1 right 0", "node word 7", "counts 1", "out 1"):
            self.row(with_rows(2, row), 3, 1)
        # By its form a number may be whatever it is: that is told of pins.
        for row, node in (("pin 99999 right 0", 99999), ("pin 1 nowhere 0", 1), ("pin 1 right 99999", 1),
                          ("pin 0 top 0", 0), ("pin 1 right 1", 1)):
            self.assertEqual(refusal(read_unit, with_rows(2, row)), ("BadPlacement", node))
        self.assertEqual(refusal(read_unit, with_rows(2, ROWS[2], ROWS[2])), ("BadPlacement", 1))
        # Behind a row of the graph no pin can stand.
        self.row(with_rows(3, ROWS[3], "pin 1 right 0"), 5, 1)
        self.row(TEXT + "\npin 1 right 0", len(ROWS) + 1, 1)
        graph = (STEADY[0], STEADY[1])
        text = unit_text(graph, default_profile(graph), ((5, ("head", 0)), (8, ("foot", 0))), 1)
        self.assertEqual(refusal(read_unit, text), ("Unsound", 5))
        text = unit_text(graph, default_profile(graph), ((8, ("top", 0)), (5, ("head", 0))), 1)
        self.assertEqual(refusal(read_unit, text), ("BadPlacement", 5))

    def test_rows_are_counted_over_the_whole_text(self):
        for at in range(3, len(ROWS)):
            self.row(with_rows(at, ROWS[at] + " "), at + 1, 0)
            self.row(with_rows(at, "x"), at + 1, 1)
            self.row(with_rows(at, ROWS[at] + " ?"), at + 1, len(ROWS[at].split()) + 1)
        self.row(with_rows(4, "if 0 left 1"), 5, 4)
        self.row(with_rows(11, "node word x"), 12, 3)

    def test_rows_that_lack(self):
        self.row("", 1, 0)
        self.row("unit 1", 2, 0)
        self.row("unit 1\n", 2, 0)
        self.row("unit 1\ncounts 1", 3, 0)
        self.row("unit 1\ncounts 1\npin 0 top 0", 4, 0)
        self.row("unit 1\ncounts 1\npin 0 top 0\n", 4, 0)
        self.row("unit 1\ncounts 1\nblock top", 4, 0)
        self.row("unit 1\ncounts 1\nblock top\nout 0", 5, 0)
        self.row("unit 1\ncounts 1\nblock top\nout 0\n", 5, 0)
        self.row(TEXT + "\n", len(ROWS) + 1, 0)
        self.row(TEXT + "\nblock more", len(ROWS) + 1, 1)
        self.assertEqual(refusal(read_unit, "unit 1\ncounts 1\nblock top\nreturn 0"), ("BadGraph", "blocks", 0))

    def test_which_comes_ahead(self):
        # Rows, then the graph, then how many counts there are, then what a unit is refused for.
        unsound = graph_text(LOOPED)
        six = "counts" + " 1" * 6
        self.assertEqual(refusal(read_unit, f"unit 1\n{six}\n{unsound}"), ("Unsound", 6))
        self.assertEqual(refusal(read_unit, f"unit 1\n{six} 1\n{unsound}"), ("BadProfile", None))
        self.assertEqual(refusal(read_unit, f"unit 1\n{six} 1\n{unsound}\nnode add 0 0 0"),
                         ("BadRow", 3 + len(unsound.split("\n")), 5))
        self.assertEqual(refusal(read_unit, f"unit 1\n{six} 1\n{unsound}\nnode word 70000"), ("BadGraph", "nodes", 10))
        self.assertEqual(refusal(read_unit, f"unit 1\n{six}\npin 99 x 0\n{unsound}"), ("Unsound", 6))
        self.assertEqual(refusal(read_unit, with_rows(1, "counts 1", "pin 99 x 0", of=2)), ("BadProfile", None))
        self.assertEqual(refusal(read_unit, f"unit 1\n{six} 1\nblock top\ngoto top"), ("BadGraph", "ends", 0))

    def test_refused(self):
        for thing in odd_things() + [TEXT.encode(), [TEXT], tuple(ROWS)]:
            if not isinstance(thing, str):
                self.assertEqual(refusal(read_unit, thing), ("BadRow", 0, 0))


if __name__ == "__main__":
    unittest.main()
