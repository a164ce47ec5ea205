import unittest

from making import LEAST, LOOPED, diamond, random_graph
from odd import odd_things

from seaplace.errors import BadGraph, BadRow
from seaplace.graphtext import graph_text, read_graph

TEXT = """block top
store 0 0 1
goto head
block head
if 3 left right
block left
check 4
store 0 2 4
goto foot
block right
out 6
goto foot
block foot
if 5 head done
block done
out 2
check 3
store 1 2 3
store 1 3 2
out 7
return 2
node word 0
node given 0
node phi head 0 5
node less 2 1
node load 0 2 head 0
node add 2 8
node div 1 3
node pick 3 2 1
node word 1
node mul 1 1"""


class Texts(unittest.TestCase):
    def bad_row(self, text, row, word):
        with self.assertRaises(BadRow) as caught:
            read_graph(text)
        self.assertEqual((caught.exception.row, caught.exception.word), (row, word), text)

    def bad_graph(self, text, part, number):
        with self.assertRaises(BadGraph) as caught:
            read_graph(text)
        self.assertEqual((caught.exception.part, caught.exception.number), (part, number), text)

    def test_written(self):
        self.assertEqual(graph_text(LOOPED), TEXT)
        self.assertEqual(graph_text(LEAST), "block only\ngoto next\nblock next\ngoto next")

    def test_read(self):
        self.assertEqual(read_graph(TEXT), LOOPED)
        self.assertEqual(read_graph(text=graph_text(graph=diamond())), diamond())

    def test_there_and_back(self):
        for seed in range(200):
            graph = random_graph(seed)
            self.assertEqual(read_graph(graph_text(graph)), graph)

    def test_no_text(self):
        for thing in odd_things():
            if not isinstance(thing, str):
                self.bad_row(thing, 0, 0)

    def test_blanks(self):
        self.bad_row("", 1, 0)
        self.bad_row(" ", 1, 0)
        self.bad_row("\n", 1, 0)
        self.bad_row(" block a\nreturn 0\nnode word 1", 1, 0)
        self.bad_row("block a \nreturn 0\nnode word 1", 1, 0)
        self.bad_row("block a\nreturn  0\nnode word 1", 2, 0)
        self.bad_row("block a\n\nreturn 0\nnode word 1", 2, 0)
        self.bad_row("block a\nreturn 0\nnode word 1\n", 4, 0)
        self.bad_row("\nblock a\nreturn 0\nnode word 1", 1, 0)
        self.bad_row("block a\nreturn 0\n node  word 1", 3, 0)

    def test_first_words(self):
        self.bad_row("out 0", 1, 1)
        self.bad_row("return 0", 1, 1)
        self.bad_row("Block a", 1, 1)
        self.bad_row("word 1", 1, 1)
        self.bad_row("block a\nblock b", 2, 1)
        self.bad_row("block a\nnode word 1", 2, 1)
        self.bad_row("block a\nput 0", 2, 1)
        self.bad_row("block a\nword 1", 2, 1)
        self.bad_row("block a\nreturn 0\nout 0", 3, 1)
        self.bad_row("block a\nreturn 0\nreturn 0", 3, 1)
        self.bad_row("block a\nreturn 0\nnode word 1\nblock b\nreturn 0", 4, 1)
        self.bad_row("block a\nreturn 0\nnode word 1\nreturn 0", 4, 1)
        self.bad_row("block a\nreturn 0\nnode word 1\nword 1", 4, 1)
        self.bad_row("block a\nreturn 0\nnode", 3, 2)
        self.bad_row("block a\nreturn 0\nnode out 0", 3, 2)
        self.bad_row("block a\nreturn 0\nnode node word 1", 3, 2)
        self.bad_row("block a\nreturn 0\nnode Word 1", 3, 2)

    def test_a_node_row_ahead_of_all_blocks(self):
        for row in ("node word 0", "node word x", "node", "node add 0", "node phi a 0 0", "node block a"):
            self.bad_row(row, 1, 1)
            self.bad_row(row + "\nblock a\nreturn 0\nnode word 1", 1, 1)
            self.bad_row(row + "\n " + row, 1, 1)
        self.bad_row("node  word 0", 1, 0)
        self.bad_row("node ", 1, 0)
        self.bad_row("nodes word 0", 1, 1)

    def test_words_of_a_block(self):
        self.bad_row("block", 1, 2)
        self.bad_row("block A", 1, 2)
        self.bad_row("block 1", 1, 2)
        self.bad_row("block abcdefghi", 1, 2)
        self.bad_row("block a b", 1, 3)
        self.bad_row("block A b", 1, 2)

    def test_words_of_deeds_and_ends(self):
        rows = (
            ("out", 2), ("out a", 2), ("out 00", 2), ("out 01", 2), ("out 100000", 2), ("out -1", 2), ("out 0 0", 3),
            ("store", 2), ("store a 0 0", 2), ("store 0", 3), ("store 0 a", 3), ("store 0 0", 4), ("store 0 0 a", 4),
            ("store 0 0 0 0", 5), ("store 0 0 0 a a", 5), ("check", 2), ("check x", 2), ("check 0 x", 3),
            ("goto", 2), ("goto 1", 2), ("goto A", 2), ("goto a b", 3), ("if", 2), ("if a", 2), ("if 0", 3),
            ("if 0 1", 3), ("if 0 a", 4), ("if 0 a 1", 4), ("if 0 a b c", 5), ("if x 1 2", 2),
            ("return", 2), ("return a", 2), ("return 0 0", 3),
        )
        for row, word in rows:
            self.bad_row("block a\n" + row, 2, word)
            self.bad_row("block a\nout 1\n" + row + "\nreturn  0", 3, word)

    def test_words_of_nodes(self):
        rows = [
            ("word", 3), ("word a", 3), ("word 01", 3), ("word 1 2", 4), ("given", 3), ("given x", 3),
            ("given 0 0", 4), ("phi", 3), ("phi 0", 3), ("phi a x", 4), ("phi a 0 x", 5), ("phi a 0 0 0 b", 7),
            ("pick 0 0", 5), ("pick 0 0 0 0", 6), ("pick a 0 0", 3), ("pick 0 a", 4), ("load", 3), ("load a", 3),
            ("load 0", 4), ("load 0 a", 4), ("load 0 0", 5), ("load 0 0 0", 5), ("load 0 0 a", 6),
            ("load 0 0 a b", 6), ("load 0 0 a 0 0", 7),
        ]
        for kind in ("add", "sub", "mul", "and", "xor", "less", "same", "div", "rest"):
            rows.extend(((kind, 3), (kind + " 0", 4), (kind + " a 0", 3), (kind + " 0 a", 4), (kind + " 0 0 0", 5)))
        for row, word in rows:
            self.bad_row("block a\nreturn 0\nnode " + row, 3, word)
            self.bad_row("block a\nreturn 0\nnode word 70000\nnode " + row + "\nnode", 4, word)

    def test_a_block_without_an_end(self):
        self.bad_row("block a", 2, 0)
        self.bad_row("block a\nout 0", 3, 0)
        self.bad_row("block a\nreturn 0\nblock b", 4, 0)

    def test_the_first_row_is_told(self):
        self.bad_row("block a\nout x\n \nblock", 2, 2)
        self.bad_row("block a\nreturn 0\nnode add 0 99999 0\nnode", 3, 5)

    def test_no_graph(self):
        self.bad_graph("block a\nreturn 0", "blocks", 0)
        self.bad_graph("block a\nreturn 1\nnode word 1", "blocks", 0)
        self.bad_graph("block a\nstore 2 0 0\nreturn 0\nnode word 1", "blocks", 0)
        self.bad_graph("block a\nreturn 0\nblock a\nreturn 0\nnode word 1", "blocks", 1)
        self.bad_graph("block a\n" + "out 0\n" * 6 + "return 0\nnode word 1", "blocks", 0)
        many = "".join(f"block {chr(97 + at)}\ngoto {chr(98 + at)}\n" for at in range(12))
        self.bad_graph(many + "block m\nreturn 0\nnode word 1", "blocks", None)
        self.bad_graph("block a\nreturn 0" + "\nnode word 1" * 41, "nodes", None)
        self.bad_graph("block a\ngoto b\nnode word 1", "ends", 0)
        self.bad_graph("block a\nreturn 0\nblock b\nreturn 0\nnode word 1", "reached", 1)
        self.bad_graph("block a\nreturn 0\nnode word 65536", "nodes", 0)
        self.bad_graph("block a\nreturn 0\nnode word 1\nnode given 4", "nodes", 1)
        self.bad_graph("block a\ngoto b\nblock b\nreturn 0\nnode word 1\nnode phi b", "nodes", 1)
        self.bad_graph("block a\ngoto b\nblock b\nreturn 0\nnode word 1\nnode phi b 0 0", "nodes", 1)
        self.bad_graph("block a\nreturn 0\nnode load 0 0 a 1", "nodes", 0)
        self.bad_graph("block a\nreturn 0\nnode add 0 0", "rings", 0)

    def test_greatest_words(self):
        text = "block abcdefgh\nreturn 0\nnode word 65535"
        self.assertEqual(read_graph(text), ((("abcdefgh", (), ("return", 0)),), (("word", 65535),)))
        text = "block a\nreturn 0\nnode word 0"
        self.assertEqual(read_graph(text), ((("a", (), ("return", 0)),), (("word", 0),)))

    def test_a_long_text(self):
        self.bad_graph("block a\nreturn 0\n" * 1700 + "node word 1", "blocks", None)

    def test_what_is_no_graph_has_no_text(self):
        with self.assertRaises(BadGraph) as caught:
            graph_text((LOOPED[0], ()))
        self.assertEqual((caught.exception.part, caught.exception.number), ("blocks", 0))


if __name__ == "__main__":
    unittest.main()
