import unittest

from making import LOOPED, diamond, middle, random_graph, row_and_back, ways_by_hand
from odd import odd_things

from seaplace.dominators import dominators
from seaplace.errors import BadGraph, BadPaper
from seaplace.treepaper import check_tree, tree_paper

ONE = ((("a", (), ("return", 0)),), (("word", 0),))
RIGHT = [
    ("left", "top", ("top", "left"), ("top", "left")),
    ("right", "top", ("top", "right"), ("top", "right")),
    ("foot", "top", ("top", "left", "foot"), ("top", "right", "foot")),
]


class TreePapers(unittest.TestCase):
    def refused(self, graph, paper, place):
        with self.assertRaises(BadPaper) as caught:
            check_tree(graph, paper)
        self.assertEqual(caught.exception.place, place)

    def test_made_ones_are_right(self):
        graphs = [LOOPED, diamond(), middle(), row_and_back(), ONE] + [random_graph(seed) for seed in range(200)]
        for graph in graphs:
            paper = tree_paper(graph)
            self.assertIsInstance(paper, list)
            self.right_by_hand(graph, paper)
            told = check_tree(graph, paper)
            self.assertEqual(told, dominators(graph))
            self.assertEqual(list(told), list(dominators(graph)))

    def right_by_hand(self, graph, paper):
        ways = ways_by_hand(graph)
        self.assertEqual([row[0] for row in paper], list(ways)[1:])
        for block, dominator, path, other in paper:
            for one in (path, other):
                self.assertIsInstance(one, tuple)
                self.assertEqual((one[0], one[-1]), (dominator, block))
                self.assertTrue(all(after in ways[name] for name, after in zip(one, one[1:])))
            self.assertEqual(set(path) & set(other), {block, dominator})

    def test_of_one_block(self):
        self.assertEqual(tree_paper(ONE), [])
        self.assertEqual(check_tree(ONE, ()), {})
        self.refused(ONE, [()], 0)
        self.refused(ONE, ("a", "a"), 0)

    def test_right_ones(self):
        told = {"left": "top", "right": "top", "foot": "top"}
        self.assertEqual(check_tree(diamond(), RIGHT), told)
        self.assertEqual(check_tree(graph=diamond(), paper=tuple(RIGHT)), told)
        turned = ("foot", "top", RIGHT[2][3], RIGHT[2][2])
        self.assertEqual(check_tree(diamond(), [*RIGHT[:2], turned]), told)

    def test_paths_may_go_around(self):
        ways = [
            ("head", "top", ("top", "head"), ("top", "head", "left", "foot", "head")),
            ("left", "head", ("head", "right", "foot", "head", "left"), ("head", "left")),
            ("right", "head", ("head", "right"), ("head", "right")),
            ("foot", "head", ("head", "left", "foot"), ("head", "right", "foot")),
            ("done", "foot", ("foot", "done"), ("foot", "head", "left", "foot", "done")),
        ]
        self.assertEqual(check_tree(LOOPED, ways), dominators(LOOPED))
        ways[3] = ("foot", "head", ("head", "left", "foot"), ("head", "left", "foot", "head", "right", "foot"))
        self.refused(LOOPED, ways, 3)

    def test_no_list_or_tuple(self):
        for thing in odd_things():
            if not isinstance(thing, (list, tuple)):
                self.refused(diamond(), thing, None)

    def test_rows_of_another_form(self):
        for thing in odd_things():
            for place in range(3):
                paper = list(RIGHT)
                paper[place] = thing
                self.refused(diamond(), paper, place)
                for part in range(4):
                    row = list(RIGHT[place])
                    row[part] = thing
                    paper[place] = tuple(row)
                    self.refused(diamond(), paper, place)

    def test_rows_changed(self):
        left, right, foot = RIGHT
        wrong = (
            list(foot), foot[:3], (*foot, ()), ("foot", "foot", ("foot",), ("foot",)),
            ("foot", "top", ["top", "left", "foot"], foot[3]), ("foot", "top", foot[2], list(foot[3])),
            ("foot", "top", foot[2], foot[2]), ("foot", "top", (), foot[3]), ("foot", "top", foot[2], ()),
            ("foot", "top", ("top", "foot"), foot[3]), ("foot", "top", foot[2], ("right", "foot")),
            ("foot", "top", ("left", "foot"), foot[3]), ("foot", "top", ("top", "left"), foot[3]),
            ("foot", "left", foot[2], foot[3]), ("foot", "nowhere", foot[2], foot[3]),
            ("foot", "top", ("top", "left", "right", "foot"), foot[3]), ("foot", None, foot[2], foot[3]),
            ("foot", "top", (*foot[2], "foot"), foot[3]), ("foot", "top", ("nowhere", "foot"), foot[3]),
            ("foot", "nowhere", ("nowhere", "foot"), ("nowhere", "foot")), ("foot", "top", foot[2], ("nowhere",)), left, ("top", "top", ("top",), ("top",)),
        )
        for row in wrong:
            self.refused(diamond(), [left, right, row], 2)
            self.refused(diamond(), [left, right, row, row], 2)

    def test_rows_left_out_twice_exchanged_too_many(self):
        left, right, foot = RIGHT
        self.refused(diamond(), [], 0)
        self.refused(diamond(), [left], 1)
        self.refused(diamond(), (left, right), 2)
        self.refused(diamond(), [right, foot], 0)
        self.refused(diamond(), [left, foot], 1)
        self.refused(diamond(), [left, left, right, foot], 1)
        self.refused(diamond(), [left, foot, right], 1)
        self.refused(diamond(), [right, left, foot], 0)
        self.refused(diamond(), [*RIGHT, foot], 3)
        self.refused(diamond(), [*RIGHT, None, None], 3)

    def test_predecessors_that_come_elsewhere(self):
        # A wrong dominator with paths of its own: top doesn't come to head.
        paper = tree_paper(LOOPED)
        paper[0] = ("head", "foot", ("foot", "head"), ("foot", "head"))
        self.refused(LOOPED, paper, 0)
        graph = middle()
        paper = [
            ("a", "b", ("b", "a"), ("b", "a")), ("b", "a", ("a", "b"), ("a", "b")),
            ("c", "a", ("a", "c"), ("a", "c")),
        ]
        self.refused(graph, paper, 0)
        paper[0] = ("a", "top", ("top", "a"), ("top", "a"))
        self.refused(graph, paper, 1)
        paper[1] = ("b", "top", ("top", "b"), ("top", "b"))
        self.assertEqual(check_tree(graph, paper), dominators(graph))

    def test_told_dominators_in_a_ring(self):
        graph = middle()
        paper = [
            ("a", "top", ("top", "a"), ("top", "b", "a")), ("b", "a", ("a", "b"), ("a", "b")),
            ("c", "a", ("a", "c"), ("a", "c")),
        ]
        self.refused(graph, paper, 1)

    def test_forms_are_looked_at_ahead(self):
        paper = tree_paper(LOOPED)
        paper[0] = ("head", "foot", ("foot", "head"), ("foot", "head"))
        self.refused(LOOPED, paper[:4], 4)
        self.refused(LOOPED, [*paper, 1], 5)
        self.refused(LOOPED, [*paper[:3], None, paper[4]], 3)

    def test_graph_ahead(self):
        for paper in (None, [], RIGHT):
            with self.assertRaises(BadGraph):
                check_tree(None, paper)
        with self.assertRaises(BadGraph):
            tree_paper([])

    def test_just_right_ones_are_taken(self):
        # Every way to tell dominators by edges alone: just the true ones are taken.
        for seed in range(80):
            graph = random_graph(seed, 5)
            paper = tree_paper(graph)
            ways = ways_by_hand(graph)
            for place, row in enumerate(paper):
                for name in ways:
                    if row[0] in ways[name] and name not in (row[0], row[1]):
                        changed = list(paper)
                        changed[place] = (row[0], name, (name, row[0]), (name, row[0]))
                        with self.assertRaises(BadPaper):
                            check_tree(graph, changed)

    def test_what_is_told_is_the_askers_own(self):
        paper = tree_paper(diamond())
        told = check_tree(diamond(), paper)
        told.clear()
        paper.clear()
        self.assertEqual(len(tree_paper(diamond())), 3)
        self.assertEqual(len(check_tree(diamond(), RIGHT)), 3)


if __name__ == "__main__":
    unittest.main()
