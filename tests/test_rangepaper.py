import random
import unittest

from growing import grown
from making import BARE, LOOPED, STEADY, STEADY_RANGES, TALL
from odd import odd_things
from test_placements import EARLY, LATE, with_slot
from test_ranges import PARTS
from trying import Trial, refusal

from seaplace.guards import guards_of
from seaplace.placements import early_placement, is_placement, late_placement, legal_placements
from seaplace.rangepaper import check_ranges, range_paper
from seaplace.ranges import ranges
from seaplace.versions import versions

REASONS = (
    (0, "first", (("top", 0), ("top", 1))),
    (3, ("input", 2), (("head", 0), 6)),
    (4, ("input", 2), (("left", 0),)),
    (5, ("input", 2), (("foot", 0), ("foot", 0))),
    (6, "guard", (("done", 3), ("done", 3))),
    (7, ("input", 3), (("right", 0),)),
    (8, "first", (5, 5)),
)
PAPER = (EARLY, LATE, REASONS)


def with_row(rows, at, row):
    """Rows with another one in one place."""
    return rows[:at] + (row,) + rows[at + 1:]


def is_good_row(trial, early, late, node, row):
    """Whether a row is as the document says, word by word; of rows of the right form alone."""
    _, up, down = row
    thing = trial.graph[1][node]
    own = early[node]
    if up == "first":
        good = own == trial.slots[0]
    elif up == "version":
        good = thing[0] == "load" and own == thing[3]
    elif up == "guard":
        if thing[0] not in ("div", "rest") or (trial.graph[1][thing[2]][0] == "word" and trial.graph[1][thing[2]][1]):
            return False
        guards = guards_of(trial.graph, thing[2])
        good = own in guards and not any(one != own and trial.over[one, own] for one in guards)
    else:
        good = up[1] in trial.inputs[node] and trial.stand(early, up[1]) == own
    low = late[node]
    uses = trial.fixed[node] + [late[user] for user in trial.users[node]]
    if down[0] == "version":
        if thing[0] != "load" or down[1] not in versions(trial.graph, thing[1]) or down[1] == thing[3]:
            return False
        over = [slot for slot in trial.slots if trial.below(down[1], slot)]
        good = good and all(trial.over[down[1], use] for use in uses)
        return good and over != [] and max(over, key=trial.depth) == low
    slots = []
    for use in down:
        if isinstance(use, tuple) and use not in trial.fixed[node]:
            return False
        if not isinstance(use, tuple) and use not in trial.users[node]:
            return False
        slots.append(use if isinstance(use, tuple) else late[use])
    over = [slot for slot in trial.slots if all(trial.over[slot, use] for use in slots)]
    return good and max(over, key=trial.depth) == low


class RangePapers(unittest.TestCase):
    def refused(self, paper, place, graph=STEADY):
        self.assertEqual(refusal(check_ranges, graph, paper), ("BadPaper", place), paper)

    def test_made_ones_are_right(self):
        for seed in range(150):
            graph = grown(seed, blocks=6, deeds=3, nodes=12)
            paper = range_paper(graph)
            self.assertEqual(check_ranges(graph, paper), ranges(graph))
            self.assertIsInstance(paper, tuple)
            self.assertEqual(paper[:2], (early_placement(graph), late_placement(graph)))
            trial = Trial(graph)
            self.assertEqual([row[0] for row in paper[2]], trial.floats)
            for row in paper[2]:
                self.assertTrue(is_good_row(trial, dict(paper[0]), dict(paper[1]), row[0], row))

    def test_by_hand(self):
        self.assertEqual(check_ranges(STEADY, PAPER), STEADY_RANGES)
        self.assertEqual(check_ranges(graph=STEADY, paper=PAPER), STEADY_RANGES)
        self.assertEqual(check_ranges(BARE, ((), (), ())), ())
        self.assertEqual(range_paper(BARE), ((), (), ()))
        self.assertEqual(check_ranges(TALL, range_paper(TALL)), ranges(TALL))
        for at, row in (
            (0, (0, "first", (("top", 0),))), (0, (0, "first", (("top", 1), ("top", 0)))),
            (1, (3, ("input", 2), (("head", 0), ("head", 0)))), (1, (3, ("input", 2), (("done", 1), 7, )[::-1])),
            (1, (3, ("input", 2), (6, 7))), (2, (4, ("input", 2), (("left", 0), ("left", 1)))),
            (4, (6, "guard", (("done", 3),))), (5, (7, ("input", 2), (("right", 0), ("right", 0)))),
            (6, (8, "first", (5,))),
        ):
            self.assertEqual(check_ranges(STEADY, (EARLY, LATE, with_row(REASONS, at, row))), STEADY_RANGES)

    def test_versions_by_hand(self):
        paper = range_paper(PARTS)
        told = {row[0]: row for row in paper[2]}
        self.assertEqual(told[2][1], "version")
        self.assertEqual(told[4], (4, "version", ("version", ("mid", 0))))
        self.assertEqual(told[3][1], "guard")
        at = [row[0] for row in paper[2]].index(4)
        for down in (("version", ("mid", 1)), ("version", ("top", 1)), ("version", ("top", 0)), ("version", ("mid", 2)),
                     ("version",), ("version", ("mid", 0), ("mid", 0)), ("version", "mid"), ("version", None),
                     (("last", 2),), (("mid", 0),), ("Version", ("mid", 0)), ("mid", 0)):
            rows = with_row(paper[2], at, (4, "version", down))
            self.refused((*paper[:2], rows), at, PARTS)

    def test_other_placements_show_nothing_else(self):
        # Of any two placements with the same reasons: if the paper is right, they are the highest and the lowest one.
        for seed in range(40):
            graph = grown(seed, blocks=3, deeds=2, nodes=5)
            trial = Trial(graph)
            if trial.many() > 300:
                continue
            good = range_paper(graph)
            for placed in legal_placements(graph)[:30]:
                for at, paper in ((0, (placed, *good[1:])), (1, (good[0], placed, good[2]))):
                    told = refusal(check_ranges, graph, paper)
                    self.assertEqual(told is None, placed == good[at])
                    if told is not None:
                        self.assertEqual(told[0], "BadPaper")

    def test_rows_changed(self):
        # Any reason in the place of another one is right just where the document's words hold of it.
        right, wrong = 0, 0
        for seed in range(60):
            graph = grown(seed, blocks=5, deeds=3, nodes=9)
            trial = Trial(graph)
            chance = random.Random(seed)
            paper = range_paper(graph)
            if not paper[2]:
                continue
            for _ in range(25):
                at = chance.randrange(len(paper[2]))
                node, up, down = paper[2][at]
                up = chance.choice((up, "first", "version", "guard", ("input", chance.randrange(len(graph[1])))))
                uses = trial.slots + tuple(trial.floats) + tuple(trial.users[node] + trial.fixed[node]) * 9
                down = chance.choice((
                    down, ("version", chance.choice(trial.slots)), (chance.choice(uses),),
                    (chance.choice(uses), chance.choice(uses)), (chance.choice(uses), chance.choice(uses)),
                ))
                row = (node, up, down)
                good = is_good_row(trial, dict(paper[0]), dict(paper[1]), node, row)
                told = refusal(check_ranges, graph, (*paper[:2], with_row(paper[2], at, row)))
                self.assertEqual(told, None if good else ("BadPaper", at), (seed, row))
                right, wrong = right + good, wrong + (not good)
        self.assertGreater(min(right, wrong), 200)

    def test_no_tuple_of_three(self):
        for thing in odd_things() + [list(PAPER), PAPER[:2], PAPER + ((),), (EARLY, LATE, list(REASONS))]:
            self.refused(thing, None)
            if not isinstance(thing, tuple):
                self.refused((EARLY, LATE, thing), None)
                self.refused((None, thing, thing), None)

    def test_placements_of_papers(self):
        wrong = with_slot(EARLY, 6, ("done", 1))
        other = with_slot(EARLY, 8, ("foot", 0))
        for thing in odd_things():
            self.assertEqual(refusal(check_ranges, STEADY, (thing, None, ())), ("BadPlacement", None))
            self.assertEqual(refusal(check_ranges, STEADY, (EARLY, thing, ())), ("BadPlacement", None))
        self.assertEqual(refusal(check_ranges, STEADY, (wrong, other, REASONS)), ("BadPlacement", 6))
        self.assertEqual(refusal(check_ranges, STEADY, (EARLY, other, (None,))), ("BadPlacement", 5))
        self.assertEqual(refusal(check_ranges, STEADY, (EARLY, LATE[1:], REASONS)), ("BadPlacement", None))
        # Where the graph isn't sound no placement is legal.
        self.assertEqual(refusal(check_ranges, LOOPED, ((), (), ())), ("BadPlacement", None))
        self.assertEqual(refusal(range_paper, LOOPED), ("Unsound", 6))
        self.assertEqual(refusal(check_ranges, LOOPED, None), ("BadPaper", None))
        self.assertEqual(refusal(check_ranges, [], None), ("BadGraph", None, None))

    def test_rows_left_out_twice_exchanged_too_many(self):
        for at in range(len(REASONS)):
            self.refused((EARLY, LATE, REASONS[:at]), at)
            self.refused((EARLY, LATE, REASONS[:at] + REASONS[at + 1:]), at)
            self.refused((EARLY, LATE, REASONS[:at + 1] + REASONS[at:]), at + 1)
            if at:
                rows = with_row(with_row(REASONS, at, REASONS[at - 1]), at - 1, REASONS[at])
                self.refused((EARLY, LATE, rows), at - 1)
        self.refused((EARLY, LATE, REASONS + (REASONS[-1],)), 7)
        self.refused((EARLY, LATE, REASONS + (None, None)), 7)
        self.refused(((), (), (None,)), 0, BARE)

    def test_rows_of_another_form(self):
        for thing in odd_things():
            for at, row in enumerate(REASONS):
                self.refused((EARLY, LATE, with_row(REASONS, at, thing)), at)
                for part in range(3):
                    self.refused((EARLY, LATE, with_row(REASONS, at, (*row[:part], thing, *row[part + 1:]))), at)
                for up in (("input", thing), (thing, 2), ("input", 2, thing)):
                    self.refused((EARLY, LATE, with_row(REASONS, at, (row[0], up, row[2]))), at)
                for down in ((thing,), (thing, row[2][0]), (row[2][0], thing), (*row[2], *row[2], thing)):
                    self.refused((EARLY, LATE, with_row(REASONS, at, (row[0], row[1], down))), at)
        for at, row in (
            (0, (False, *REASONS[0][1:])), (0, (0, ["first"], REASONS[0][2])), (0, list(REASONS[0])),
            (0, REASONS[0][:2]), (0, REASONS[0] + ((),)), (0, (0, ("first",), REASONS[0][2])), (0, (0, "first", ())),
            (6, (8, "first", 5)), (6, (8, "first", [5])), (6, (8, "first", (5, 5, 5))), (6, (8, "first", (True,))),
            (2, (4, ("input", 1), (("left", 0),))), (2, (4, ("input", 3), (("left", 0),))),
            (2, (4, "first", (("left", 0),))), (2, (4, "version", (("left", 1),))),
            (4, (6, "version", (("done", 3),))), (4, (6, ("input", 3), (("done", 3),))),
            (4, (6, "guard", (("done", 4),))), (3, (5, "guard", (("foot", 0),))), (0, (0, "guard", (("top", 0),))),
        ):
            self.refused((EARLY, LATE, with_row(REASONS, at, row)), at)
        # The load stands at its version's slot.
        self.assertEqual(check_ranges(STEADY, (EARLY, LATE, with_row(REASONS, 2, (4, "version", (("left", 0),))))),
                         STEADY_RANGES)

    def test_a_guard_below_another_one(self):
        # Both checks are guards: only the first of them is one that no other dominates.
        graph = ((("a", (("check", 0), ("check", 0), ("out", 1), ("out", 2)), ("return", 1)),),
                 (("given", 0), ("div", 0, 0), ("rest", 0, 3), ("word", 3)))
        early = ((1, ("a", 1)), (2, ("a", 0)), (3, ("a", 0)))
        late = ((1, ("a", 2)), (2, ("a", 3)), (3, ("a", 3)))
        rows = ((1, "guard", (("a", 2),)), (2, "first", (("a", 3),)), (3, "first", (2,)))
        self.assertEqual(check_ranges(graph, (early, late, rows)), ranges(graph))
        lower = with_slot(early, 1, ("a", 2))
        self.assertIs(is_placement(graph, lower), True)
        self.refused((lower, late, rows), 0, graph)
        # By a word other than 0 nothing is guarded, wherever it is checked.
        deeds = (("check", 3), *graph[0][0][1][1:])
        checked = ((("a", deeds, ("return", 1)),), (graph[1][0], ("div", 0, 3), *graph[1][2:]))
        self.assertIs(is_placement(checked, with_slot(early, 3, ("a", 0))), True)
        wrong = ((1, "guard", (("a", 2),)), *rows[1:])
        self.refused((early, with_slot(late, 3, ("a", 0)), wrong), 0, checked)

    def test_truths_are_no_nodes(self):
        graph = ((("a", (("out", 0), ("out", 1), ("out", 2)), ("return", 3)),),
                 (("add", 4, 4), ("add", 0, 5), ("sub", 1, 0), ("xor", 1, 1), ("given", 0), ("word", 1)))
        paper = range_paper(graph)
        self.assertEqual(check_ranges(graph, paper), ranges(graph))
        lower = ((0, ("a", 0)), (1, ("a", 1)), (2, ("a", 2)), (3, ("a", 3)), (5, ("a", 1)))
        self.assertIs(is_placement(graph, lower), True)
        for at, row in enumerate(paper[2]):
            for one in ((bool(row[0]), *row[1:]), (row[0], ("input", True), row[2]), (row[0], ("input", False), row[2]),
                        (row[0], row[1], (True,)), (row[0], row[1], (True, True))):
                if one[0] == row[0]:
                    self.refused((*paper[:2], with_row(paper[2], at, one)), at, graph)
        blocks = (("top", (), ("goto", "a")), ("a", (("out", 1),), ("if", 2, "a", "b")), ("b", (), ("return", 2)))
        graph = (blocks, (("phi", "a", (1, 0)), ("word", 9), ("add", 3, 3), ("sub", 0, 0)))
        paper = range_paper(graph)
        self.assertEqual(paper[2][2], (3, ("input", 0), (2, 2)))
        self.refused((*paper[:2], with_row(paper[2], 2, (3, ("input", False), (2, 2)))), 2, graph)
        self.refused((*paper[:2], with_row(paper[2], 1, (2.0, *paper[2][1][1:]))), 1, graph)

    def test_the_first_row_is_told(self):
        rows = with_row(with_row(REASONS, 5, None), 2, (4, "guard", (("left", 0),)))
        self.refused((EARLY, LATE, rows), 2)
        self.refused((EARLY, LATE, rows[:4]), 2)
        self.refused((EARLY, LATE, with_row(REASONS, 4, None)[:6]), 4)


if __name__ == "__main__":
    unittest.main()
