import unittest

from making import LEAST, LOOPED, diamond, middle, random_graph, row_and_back, ways_by_hand
from odd import odd_things

from seaplace.errors import BadGraph, BadPaper, NoBlock, OutOfPlace
from seaplace.graphs import names_of, predecessors
from seaplace.joinpaper import check_joins, join_paper
from seaplace.joins import joins

ONE = ((("a", (), ("return", 0)),), (("word", 0),))
MEETINGS = (
    ("head", ("top", "head"), ("right", "foot", "head")),
    ("foot", ("head", "left", "foot"), ("right", "foot")),
)
BRINGS = (("left", "head"), ("right", "head"), ("done", "foot"))


class JoinPapers(unittest.TestCase):
    def refused(self, paper, place, blocks=("right",), graph=LOOPED):
        with self.assertRaises(BadPaper) as caught:
            check_joins(graph, blocks, paper)
        self.assertEqual(caught.exception.place, place)

    def test_made_ones_are_right(self):
        for seed in range(200):
            graph = random_graph(seed)
            names = names_of(graph)
            for blocks in ((), names[:1], names[1::2], list(names[::3]), names[-1:] * 2, names):
                paper = join_paper(graph, blocks)
                self.right_by_hand(graph, blocks, paper)
                self.assertEqual(check_joins(graph, blocks, paper), joins(graph, blocks))

    def right_by_hand(self, graph, blocks, paper):
        self.assertIsInstance(paper, tuple)
        meetings, brings = paper
        ways = ways_by_hand(graph)
        names = names_of(graph)
        starts = {names[0], *blocks}
        met = [row[0] for row in meetings]
        self.assertEqual(met, [name for name in names if name in met])
        for block, *paths in meetings:
            for path in paths:
                self.assertIsInstance(path, tuple)
                self.assertGreaterEqual(len(path), 2)
                self.assertIn(path[0], starts)
                self.assertEqual(path[-1], block)
                self.assertTrue(all(after in ways[name] for name, after in zip(path, path[1:])))
            self.assertNotEqual(paths[0][0], paths[1][0])
            self.assertEqual(set(paths[0]) & set(paths[1]), {block})
        self.assertEqual([row[0] for row in brings], [name for name in names[1:] if name not in met])
        brought = {**dict(brings), **{name: name for name in [*starts, *met]}}
        for block, come in brings:
            self.assertEqual({brought[name] for name in predecessors(graph, block)}, {come})

    def test_rows_by_hand(self):
        self.assertEqual(join_paper(LOOPED, ("done",))[0], ())
        self.assertEqual(
            join_paper(LOOPED, ("done",))[1],
            (("head", "top"), ("left", "top"), ("right", "top"), ("foot", "top"), ("done", "top")),
        )
        self.assertEqual(join_paper(ONE, ("a",)), ((), ()))
        (meeting,), brings = join_paper(graph=LEAST, blocks=["next"])
        self.assertEqual(meeting[0], "next")
        self.assertEqual(sorted(meeting[1:]), [("next", "next"), ("only", "next")])
        self.assertEqual(brings, ())

    def test_right_ones(self):
        self.assertEqual(check_joins(LOOPED, ("right",), (MEETINGS[:1] + (
            ("foot", ("top", "head", "left", "foot"), ("right", "foot")),
        ), BRINGS)), ("head", "foot"))
        self.assertEqual(check_joins(LOOPED, ["right", "head"], (MEETINGS, BRINGS)), ("head", "foot"))
        self.assertEqual(check_joins(graph=ONE, blocks=(), paper=((), ())), ())
        # A path may begin at the block at which both end, and may come through it.
        meetings = (("head", ("top", "head"), ("head", "left", "foot", "head")), MEETINGS[1])
        self.assertEqual(check_joins(LOOPED, ("right", "head"), (meetings, BRINGS)), ("head", "foot"))
        meetings = (("head", ("top", "head"), ("right", "foot", "head", "left", "foot", "head")), MEETINGS[1])
        self.assertEqual(check_joins(LOOPED, ("right", "head"), (meetings, BRINGS)), ("head", "foot"))

    def test_no_tuple_of_two_tuples(self):
        for thing in odd_things():
            if not (isinstance(thing, tuple) and len(thing) == 2):
                self.refused(thing, None)
            if not isinstance(thing, tuple):
                self.refused((thing, BRINGS), None)
                self.refused((MEETINGS, thing), None)
        for thing in ([MEETINGS, BRINGS], (MEETINGS,), (MEETINGS, BRINGS, ()), (list(MEETINGS), BRINGS)):
            self.refused(thing, None, ("right", "head"))

    def test_meetings_of_another_form(self):
        blocks = ("right", "head")
        for thing in odd_things():
            self.refused(((thing, *MEETINGS), BRINGS), ("meeting", 0), blocks)
            self.refused(((*MEETINGS, thing), BRINGS), ("meeting", 2), blocks)
            for part in range(3):
                row = list(MEETINGS[1])
                row[part] = thing
                self.refused(((MEETINGS[0], tuple(row)), BRINGS), ("meeting", 1), blocks)

    def test_meetings_changed(self):
        one, other = MEETINGS[1][1:]
        wrong = (
            ["foot", one, other], ("foot", one), ("foot", one, other, ()), ("left", one, other),
            ("foot", list(one), other), ("foot", one, one), ("foot", (), other), ("foot", ("foot",), other),
            ("foot", one, ("foot",)), ("foot", ("left", "foot"), other), ("foot", ("head", "foot"), other),
            ("foot", ("head", "right", "foot"), other), ("foot", ("right", "foot", "head", "left", "foot"), other),
            ("foot", ("head", "left"), other), ("foot", (*one, "done"), other), ("top", ("top",), ("right",)),
            ("foot", ("top", "head", "right", "foot"), other), ("nowhere", one, other),
        )
        for row in wrong:
            self.refused(((MEETINGS[0], row), BRINGS), ("meeting", 1), ("right", "head"))
        # Of a path there must be two blocks, though both of its ends be such; and not both may begin at their end.
        self.refused(((MEETINGS[0], ("foot", ("foot",), other)), BRINGS), ("meeting", 1), ("right", "head", "foot"))
        around = (("next", ("next", "next"), ("next", "next")),)
        self.refused((around, ()), ("meeting", 0), ("next",), LEAST)
        for path in (("nowhere", "foot"), ("nowhere",), ("right", "nowhere", "foot"), ("right", "nowhere")):
            self.refused(((MEETINGS[0], ("foot", one, path)), BRINGS), ("meeting", 1), ("right", "head"))
        # Where head isn't one of the blocks, no path may begin there.
        self.refused((MEETINGS, BRINGS), ("meeting", 1), ("right",))

    def test_meetings_rise(self):
        blocks = ("right", "head")
        head, foot = MEETINGS
        self.refused(((foot, head), BRINGS), ("meeting", 1), blocks)
        self.refused(((head, head, foot), BRINGS), ("meeting", 1), blocks)
        self.refused(((head, foot, foot), BRINGS), ("meeting", 2), blocks)
        self.refused(((head, foot, head), BRINGS), ("meeting", 2), blocks)

    def test_a_meeting_left_out(self):
        blocks = ("right", "head")
        head, foot = MEETINGS
        rows = (("left", "head"), ("right", "head"), ("foot", "head"), ("done", "head"))
        self.refused(((head,), rows), ("bring", 2), blocks)
        rows = (("left", "head"), ("right", "head"), ("foot", "right"), ("done", "head"))
        self.refused(((head,), rows), ("bring", 2), blocks)
        self.refused(((head,), BRINGS), ("bring", 2), blocks)
        self.refused(((), ()), ("bring", 0), blocks)

    def test_brings_of_another_form(self):
        blocks = ["right", "head"]
        for thing in odd_things():
            for place in range(3):
                rows = list(BRINGS)
                rows[place] = thing
                self.refused((MEETINGS, tuple(rows)), ("bring", place), blocks)
                rows[place] = (BRINGS[place][0], thing)
                self.refused((MEETINGS, tuple(rows)), ("bring", place), blocks)
                rows[place] = (thing, BRINGS[place][1])
                self.refused((MEETINGS, tuple(rows)), ("bring", place), blocks)

    def test_brings_left_out_twice_exchanged_too_many(self):
        blocks = ("right", "head")
        left, right, done = BRINGS
        self.refused((MEETINGS, ()), ("bring", 0), blocks)
        self.refused((MEETINGS, (left,)), ("bring", 1), blocks)
        self.refused((MEETINGS, (left, right)), ("bring", 2), blocks)
        self.refused((MEETINGS, (left, done)), ("bring", 1), blocks)
        self.refused((MEETINGS, (right, left, done)), ("bring", 0), blocks)
        self.refused((MEETINGS, (left, left, right, done)), ("bring", 1), blocks)
        self.refused((MEETINGS, (*BRINGS, done)), ("bring", 3), blocks)
        self.refused((MEETINGS, (*BRINGS, None, None)), ("bring", 3), blocks)
        self.refused((MEETINGS, (("head", "top"), *BRINGS)), ("bring", 0), blocks)
        self.refused((MEETINGS, (["left", "head"], right, done)), ("bring", 0), blocks)
        self.refused((MEETINGS, (left, (*right, "head"), done)), ("bring", 1), blocks)
        self.refused((MEETINGS, (left, ("right",), done)), ("bring", 1), blocks)
        self.refused((MEETINGS, (left, ("right", "nowhere"))), ("bring", 1), blocks)
        self.refused((MEETINGS, (("left", "top"), ("right", "nowhere"), done)), ("bring", 1), blocks)

    def test_another_one_is_brought(self):
        blocks = ("right", "head")
        left, right, done = BRINGS
        self.refused((MEETINGS, (("left", "top"), right, done)), ("bring", 0), blocks)
        self.refused((MEETINGS, (left, ("right", "right"), done)), ("bring", 1), blocks)
        self.refused((MEETINGS, (left, right, ("done", "head"))), ("bring", 2), blocks)
        self.refused((MEETINGS, (("left", "top"), ("right", "top"), done)), ("bring", 0), blocks)
        # Forms are looked at ahead, and meetings ahead of them.
        self.refused((MEETINGS, (("left", "top"), right)), ("bring", 2), blocks)
        self.refused((MEETINGS, (("left", "top"), right, done, done)), ("bring", 3), blocks)
        self.refused(((*MEETINGS, ()), ()), ("meeting", 2), blocks)

    def test_these_blocks_bring_themselves(self):
        paper = join_paper(row_and_back(), ("z",))
        self.assertEqual(paper[1][-1], ("z", "abcdefgh"))
        graph = diamond()
        meetings = (("foot", ("left", "foot"), ("top", "right", "foot")),)
        self.assertEqual(check_joins(graph, ("left",), (meetings, (("left", "top"), ("right", "top")))), ("foot",))
        self.refused((meetings, (("left", "left"), ("right", "top"))), ("bring", 0), ("left",), graph)

    def test_refused_ahead(self):
        for thing in odd_things():
            with self.assertRaises(BadGraph):
                check_joins(None, thing, thing)
            with self.assertRaises(BadGraph):
                join_paper(None, thing)
            for ask in (lambda blocks: join_paper(LOOPED, blocks), lambda blocks: check_joins(LOOPED, blocks, None)):
                with self.assertRaises(NoBlock) as caught:
                    ask(("left", thing, "nowhere"))
                self.assertIs(caught.exception.name, thing)
                if not isinstance(thing, (list, tuple)):
                    with self.assertRaises(OutOfPlace):
                        ask(thing)

    def test_a_loop_without_a_head(self):
        paper = join_paper(middle(), ["b", "b"])
        self.assertEqual([row[0] for row in paper[0]], ["a", "b"])
        self.assertEqual(paper[1], (("c", "a"),))
        self.assertEqual(check_joins(middle(), ("b",), paper), ("a", "b"))


if __name__ == "__main__":
    unittest.main()
