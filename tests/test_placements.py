import unittest

from growing import grown
from making import BARE, LEAST, LOOPED, STEADY, STEADY_RANGES, TALL, random_graph
from odd import odd_things
from trying import Trial, refusal

from seaplace.placements import (
    count_placements, does_fit, early_placement, is_placement, late_placement, legal_placements, need_placement,
    nth_placement, place_number,
)

EARLY = tuple((node, high) for node, high, _ in STEADY_RANGES)
LATE = tuple((node, low) for node, _, low in STEADY_RANGES)


def with_slot(placement, node, slot):
    """A placement by which a node stands in another slot."""
    return tuple((one, slot if one == node else own) for one, own in placement)


def counted(*sizes):
    """A graph of blocks in a row, whose words may stand in so many slots each, whatever stands where."""
    slots = max(sizes)
    names = "abcdefghijkl"
    givens = ("given", 0)
    many = (slots + 5) // 6
    rows = [[("out", len(sizes))] * 5 for _ in range(many)]
    ends = [("goto", names[at + 1]) for at in range(many - 1)] + [("return", len(sizes))]
    for node, size in enumerate(sizes):
        block, place = divmod(size - 1, 6)
        if place < 5 and rows[block][place] == ("out", len(sizes)):
            rows[block][place] = ("out", node)
        elif place < 5:
            rows[block][place] = ("store", 0, rows[block][place][1], node)
        else:
            ends[block] = ("if", node, names[block + 1], "z")
    last = (("z", (), ("return", len(sizes))),) if any(end[0] == "if" for end in ends) else ()
    blocks = tuple((names[at], tuple(rows[at]), ends[at]) for at in range(many))
    return (blocks + last, tuple(("word", size) for size in sizes) + (givens,))


class Placements(unittest.TestCase):
    def test_by_hand(self):
        self.assertEqual(early_placement(STEADY), EARLY)
        self.assertEqual(late_placement(STEADY), LATE)
        self.assertEqual(count_placements(STEADY), 56)
        rows = legal_placements(STEADY)
        self.assertEqual(len(rows), 56)
        self.assertEqual(rows[0], EARLY)
        self.assertEqual(rows[1], with_slot(EARLY, 5, ("foot", 0)))
        self.assertEqual(rows[2], with_slot(EARLY, 8, ("top", 1)))
        self.assertEqual(rows[7], with_slot(EARLY, 7, ("right", 0)))
        self.assertEqual(rows[28], with_slot(EARLY, 4, ("left", 0)))
        self.assertEqual(rows[-1], LATE)

    def test_fits_by_hand(self):
        for node in (0, 2, 3, 4, 5, 6, 7, 8):
            self.assertIs(does_fit(STEADY, EARLY, node), True)
        wrong = with_slot(EARLY, 8, ("foot", 0))
        self.assertIs(does_fit(STEADY, wrong, 8), True)
        self.assertIs(does_fit(STEADY, wrong, 5), False)
        self.assertIs(does_fit(STEADY, with_slot(EARLY, 4, ("left", 1)), 4), False)
        self.assertIs(does_fit(STEADY, with_slot(EARLY, 4, ("foot", 0)), 4), False)
        self.assertIs(does_fit(STEADY, with_slot(EARLY, 6, ("done", 1)), 6), False)
        self.assertIs(does_fit(STEADY, with_slot(EARLY, 6, ("done", 4)), 6), False)
        self.assertIs(does_fit(STEADY, with_slot(EARLY, 3, ("top", 1)), 3), False)
        # A phi fits wherever its inputs stand.
        self.assertIs(does_fit(STEADY, with_slot(EARLY, 5, ("done", 5)), 2), True)
        self.assertIs(does_fit(STEADY, with_slot(EARLY, 5, ("done", 5)), 5), False)

    def test_a_live_phi_that_does_not_fit(self):
        graph = ((*BARE[0][:1], ("side", (("out", 1),), ("goto", "loop")), *BARE[0][2:]), BARE[1])
        self.assertIs(does_fit(graph, (), 1), False)
        self.assertIs(is_placement(graph, ()), False)
        self.assertEqual(refusal(need_placement, graph, ()), ("BadPlacement", 1))
        self.assertEqual(legal_placements(graph), [])
        self.assertEqual(count_placements(graph), 0)
        self.assertEqual(refusal(nth_placement, graph, 0)[0], "OutOfPlace")
        self.assertEqual(refusal(place_number, graph, ()), ("BadPlacement", 1))

    def test_nothing_floats(self):
        for graph in (BARE, LEAST):
            self.assertEqual(legal_placements(graph), [()])
            self.assertEqual(legal_placements(graph, most=1), [()])
            self.assertEqual(count_placements(graph, most=1), 1)
            self.assertEqual(nth_placement(graph, 0), ())
            self.assertEqual(place_number(graph, ()), 0)
            self.assertEqual(early_placement(graph), ())
            self.assertEqual(late_placement(graph), ())
            self.assertIs(is_placement(graph, ()), True)
            self.assertEqual(refusal(nth_placement, graph, 1)[0], "OutOfPlace")
            self.assertEqual(refusal(need_placement, graph, ((0, ("top", 0)),)), ("BadPlacement", None))
        self.assertIs(does_fit(BARE, (), 1), True)

    def test_unsound(self):
        self.assertEqual(legal_placements(LOOPED), [])
        self.assertEqual(count_placements(LOOPED, most=1), 0)
        self.assertEqual(refusal(early_placement, LOOPED), ("Unsound", 6))
        self.assertEqual(refusal(late_placement, LOOPED), ("Unsound", 6))
        for number in (0, 1, 1999, 2000, -1, None):
            self.assertEqual(refusal(nth_placement, LOOPED, number)[0], "OutOfPlace")
        placed = ((0, ("top", 0)), (3, ("head", 0)), (4, ("head", 0)), (5, ("foot", 0)), (6, ("right", 0)),
                  (7, ("done", 4)), (8, ("foot", 0)))
        self.assertEqual(refusal(need_placement, LOOPED, placed), ("BadPlacement", 6))
        self.assertEqual(refusal(place_number, LOOPED, placed), ("BadPlacement", 6))
        self.assertIs(does_fit(LOOPED, placed, 7), True)
        self.assertIs(does_fit(LOOPED, placed, 6), False)

    def test_tried(self):
        tried = 0
        for seed in range(220):
            graph = grown(seed, blocks=4, deeds=2, nodes=6, wide=seed % 2 == 0)
            trial = Trial(graph)
            if trial.many() > 3000:
                continue
            rows = trial.in_order()
            self.assertEqual(legal_placements(graph), rows)
            self.assertEqual(count_placements(graph, most=len(rows)), len(rows))
            for number in sorted({0, 1, 2, len(rows) // 2, len(rows) - 1} & set(range(len(rows)))):
                self.assertEqual(nth_placement(graph, number), rows[number])
                self.assertEqual(place_number(graph, rows[number]), number)
            self.assertEqual(refusal(nth_placement, graph, len(rows))[0], "OutOfPlace")
            self.assertEqual(early_placement(graph), rows[0])
            self.assertEqual(late_placement(graph), rows[-1])
            tried += 1
        self.assertGreater(tried, 120)

    def test_tried_whatever_stands_where(self):
        for seed in range(80):
            graph = random_graph(seed, 5)
            if seed % 3:
                graph = grown(seed, blocks=5, deeds=3, nodes=8, wide=seed % 2 == 0)
            trial = Trial(graph)
            for turn in range(6):
                slots = [trial.slots[(7 * node + 5 * turn + seed) % len(trial.slots)] for node in trial.floats]
                if turn < 4 and trial.many() > 0:
                    slots = [trial.slots[[trial.free[node, slot] for slot in trial.slots].index(True)]
                             for node in trial.floats]
                    for at in range(turn and turn - 1, turn):
                        if slots:
                            slots[(seed + at) % len(slots)] = trial.slots[(seed * 3 + turn) % len(trial.slots)]
                placed = dict(zip(trial.floats, slots))
                told = tuple(placed.items())
                for node in trial.floats + trial.phis:
                    self.assertIs(does_fit(graph, told, node), trial.fits(placed, node))
                bad = trial.misfit(placed)
                self.assertIs(is_placement(graph, told), bad is None)
                self.assertEqual(refusal(need_placement, graph, told), None if bad is None else ("BadPlacement", bad))

    def test_most(self):
        for graph, many in ((STEADY, 56), (counted(5, 8), 40), (counted(8, 10, 5, 5), 2000)):
            self.assertEqual(count_placements(graph), many)
            self.assertEqual(count_placements(graph, most=many), many)
            self.assertEqual(len(legal_placements(graph, most=many)), many)
            self.assertEqual(nth_placement(graph, many - 1), late_placement(graph))
            self.assertEqual(place_number(graph, late_placement(graph)), many - 1)
            self.assertEqual(refusal(nth_placement, graph, many)[0], "OutOfPlace")
            for most in (1, 2, many - 1):
                self.assertEqual(refusal(count_placements, graph, most=most)[0], "TooGreat")
                self.assertEqual(refusal(legal_placements, graph, most=most)[0], "TooGreat")
        self.assertEqual(count_placements(counted(1, 1), most=1), 1)

    def test_too_many(self):
        # 2,001 are 3 times 23 times 29: one more than there may be.
        graph = counted(3, 23, 29)
        self.assertEqual(refusal(count_placements, graph)[0], "TooGreat")
        self.assertEqual(refusal(legal_placements, graph)[0], "TooGreat")
        last = nth_placement(graph, 1999)
        self.assertEqual(place_number(graph, last), 1999)
        late = late_placement(graph)
        self.assertEqual(last[:2], late[:2])
        self.assertNotEqual(last[2], late[2])
        self.assertEqual(refusal(place_number, graph, late)[0], "TooGreat")
        self.assertEqual(refusal(nth_placement, graph, 2000)[0], "OutOfPlace")

    def test_tall(self):
        self.assertEqual(refusal(count_placements, TALL)[0], "TooGreat")
        self.assertEqual(refusal(legal_placements, TALL, most=2000)[0], "TooGreat")
        self.assertEqual(place_number(TALL, nth_placement(TALL, 1999)), 1999)
        self.assertEqual(place_number(TALL, early_placement(TALL)), 0)
        self.assertEqual(refusal(place_number, TALL, late_placement(TALL))[0], "TooGreat")
        self.assertIs(is_placement(TALL, late_placement(TALL)), True)

    def test_another_form(self):
        rows = list(EARLY)
        wrong = [
            (), rows, EARLY[1:], EARLY[:-1], EARLY + EARLY[-1:], EARLY[:1] + EARLY, EARLY[::-1],
            (EARLY[1], EARLY[0], *EARLY[2:]), (*EARLY[:-1], (9, ("top", 0))), (*EARLY[:-1], (2, ("head", 0))),
            (*EARLY[:-1], list(EARLY[-1])), (*EARLY[:-1], (8,)), (*EARLY[:-1], (8, ("top", 0), 0)),
            (*EARLY[:-1], (8, ["top", 0])), (*EARLY[:-1], (8, ("top", 2))), (*EARLY[:-1], (8, ("top", False))),
            (*EARLY[:-1], (8, ("over", 0))), ((False, ("top", 0)), *EARLY[1:]), (*EARLY[:-1], ("8", ("top", 0))),
        ]
        for thing in wrong + odd_things():
            self.assertIs(is_placement(STEADY, thing), False)
            self.assertEqual(refusal(need_placement, STEADY, thing), ("BadPlacement", None))
            self.assertEqual(refusal(place_number, STEADY, thing), ("BadPlacement", None))
            # The form of the placement is looked at ahead of the node.
            for node in (0, 9, thing):
                self.assertEqual(refusal(does_fit, STEADY, thing, node), ("BadPlacement", None))
        for thing in odd_things():
            for at in range(len(EARLY)):
                for row in (thing, (EARLY[at][0], thing), (thing, EARLY[at][1]), (EARLY[at][0], (thing, 0)),
                            (EARLY[at][0], ("top", thing))):
                    self.assertEqual(refusal(need_placement, STEADY, EARLY[:at] + (row,) + EARLY[at + 1:]),
                                     ("BadPlacement", None))

    def test_the_least_that_does_not_fit(self):
        self.assertEqual(refusal(need_placement, STEADY, with_slot(EARLY, 8, ("foot", 0))), ("BadPlacement", 5))
        self.assertEqual(refusal(need_placement, STEADY, with_slot(EARLY, 0, ("top", 1))), ("BadPlacement", 0))
        wrong = with_slot(with_slot(LATE, 7, ("left", 0)), 4, ("right", 0))
        self.assertEqual(refusal(need_placement, STEADY, wrong), ("BadPlacement", 4))
        self.assertEqual(refusal(place_number, STEADY, wrong), ("BadPlacement", 4))
        self.assertIs(is_placement(STEADY, wrong), False)

    def test_no_node(self):
        for thing in odd_things() + [1, 9, 10]:
            self.assertEqual(refusal(does_fit, STEADY, EARLY, thing), ("NoNode", thing))

    def test_no_most_and_no_number(self):
        for thing in odd_things() + [0, 2001, "1"]:
            self.assertEqual(refusal(legal_placements, STEADY, most=thing)[0], "OutOfPlace")
            self.assertEqual(refusal(count_placements, STEADY, most=thing)[0], "OutOfPlace")
            self.assertEqual(refusal(count_placements, LOOPED, most=thing)[0], "OutOfPlace")
            self.assertEqual(refusal(count_placements, None, most=thing), ("BadGraph", None, None))
        for thing in odd_things() + [56, 1999, 2000, -1]:
            self.assertEqual(refusal(nth_placement, STEADY, thing)[0], "OutOfPlace")
            self.assertEqual(refusal(nth_placement, (), thing), ("BadGraph", None, None))


if __name__ == "__main__":
    unittest.main()
