import random
import unittest

from growing import grown
from making import BARE, LEAST, LOOPED, STEADY, TALL
from odd import odd_things
from test_alike import CROSS, kind, lone, matches, sound_doubles
from test_demand import one_block
from trying import refusal

from seaplace.alike import classes
from seaplace.alikepaper import alike_paper, check_alike
from seaplace.graphs import inputs_of, live_nodes, node_of

# Two twins, and what isn't alike for each reason.
MIXED = one_block(
    [("check", 0), ("out", 5), ("out", 6), ("out", 7), ("out", 8)], ("return", 10),
    [
        ("given", 0), ("given", 0), ("word", 3), ("word", 3), ("word", 4),
        ("add", 0, 2), ("add", 3, 1), ("sub", 0, 2), ("sub", 2, 0), ("div", 4, 0), ("pick", 9, 11, 12),
        ("add", 4, 4), ("pick", 0, 2, 4),
    ])


def is_number(thing, many):
    return type(thing) is int and 0 <= thing < many


def fault_by(graph, paper):
    """The place by which a thing is no paper, in a tuple, by the words of the document; None of a paper."""
    if not isinstance(paper, tuple) or len(paper) != 2 or not all(isinstance(part, tuple) for part in paper):
        return (None,)
    told, rows = paper
    live = live_nodes(graph)
    ahead = []
    for number, nodes in enumerate(told):
        if not isinstance(nodes, tuple) or not nodes or not all(is_number(node, 40) and node in live for node in nodes):
            return (("classes", number),)
        if list(nodes) != sorted(set(nodes)) or set(nodes) & set(ahead):
            return (("classes", number),)
        if number and nodes[0] <= told[number - 1][0]:
            return (("classes", number),)
        ahead.extend(nodes)
    if set(ahead) != set(live):
        return (("classes", len(told)),)
    of = {node: nodes[0] for nodes in told for node in nodes}
    for number, nodes in enumerate(told):
        for one in nodes:
            for other in nodes:
                if one != other and (kind(graph, one) != kind(graph, other) or lone(graph, one) or lone(graph, other)
                                     or not matches(graph, one, other, lambda a, b: of[a] == of[b])):
                    return (("classes", number),)
    shown = set()

    def apart(one, other):
        return frozenset((of[one], of[other])) in shown

    for number, row in enumerate(rows):
        if not row_by(graph, of, row, apart) or frozenset(row[:2]) in shown:
            return (("rows", number),)
        shown.add(frozenset(row[:2]))
    if len(shown) < len(told) * (len(told) - 1) / 2:
        return (("rows", len(rows)),)
    return None


def row_by(graph, of, row, apart):
    """Whether a row can stand, by the words of the document."""
    if not isinstance(row, tuple) or len(row) != 3:
        return False
    one, other, why = row
    if not all(is_number(node, 40) and of.get(node) == node for node in (one, other)) or one >= other:
        return False
    if not isinstance(why, tuple):
        return False
    unlike = kind(graph, one) != kind(graph, other) or lone(graph, one) or lone(graph, other)
    if why == ():
        return unlike
    first, second = inputs_of(graph, one), inputs_of(graph, other)
    if unlike or not all(is_number(place, len(first)) for place in why):
        return False
    if node_of(graph, one)[0] in CROSS:
        return len(why) == 2 and apart(first[why[0]], second[why[0]]) and apart(first[why[1]], second[1 - why[1]])
    return len(why) == 1 and apart(first[why[0]], second[why[0]])


def changed_paper(paper, chance):
    """A paper with something changed, left out, twice, exchanged, one too many, or of another form."""
    parts = [list(paper[0]), list(paper[1])]
    part = parts[chance.random() < 0.7]
    way = chance.randrange(8)
    at = chance.randrange(len(part)) if part else 0
    if not part or way == 0:
        part.insert(at, chance.choice(((0, 1, ()), (0,), (1,), (0, 1, (0,)), None, ())))
    elif way == 1:
        del part[at]
    elif way == 2:
        part.insert(chance.randrange(len(part) + 1), part[at])
    elif way == 3:
        other = chance.randrange(len(part))
        part[at], part[other] = part[other], part[at]
    elif way == 4 and part is parts[1]:
        one, other, why = part[at]
        part[at] = (one, other, chance.choice(((), (0,), (1,), (0, 0), (0, 1), (1, 0), (1, 1), (2,), (True,), [0])))
    elif way == 5 and part is parts[1]:
        one, other, why = part[at]
        part[at] = chance.choice(((other, one, why), (one, one, why), (one, other), (one + 1, other, why)))
    elif way == 6 and part is parts[0] and len(part) > 1:
        # Two classes as one, or one as two.
        other = chance.randrange(len(part))
        if other != at:
            part[min(at, other)] = tuple(sorted(part[at] + part[other]))
            del part[max(at, other)]
    elif part is parts[0]:
        part[at:at + 1] = [part[at][:1], part[at][1:]] if len(part[at]) > 1 else [part[at] + (chance.randrange(12),)]
    return tuple(tuple(part) for part in parts)


class AlikePapers(unittest.TestCase):
    def test_papers_told_are_right(self):
        whys = set()
        graphs = sound_doubles(80, blocks=6, deeds=4, nodes=14)
        graphs += [grown(seed, blocks=6, deeds=4, nodes=16) for seed in range(60)] + [STEADY, BARE, LEAST, MIXED]
        for graph in graphs:
            paper = alike_paper(graph)
            self.assertIsNone(fault_by(graph, paper))
            self.assertEqual(paper[0], classes(graph))
            self.assertEqual(check_alike(graph, paper), len(classes(graph)))
            whys |= {len(why) for _, _, why in paper[1]}
        self.assertEqual(whys, {0, 1, 2})

    def test_changed_papers(self):
        kinds = {"classes": 0, "rows": 0, None: 0}
        graphs = sound_doubles(40, blocks=4, deeds=3, nodes=9) + [MIXED, STEADY, BARE]
        graphs += [grown(seed, blocks=4, deeds=3, nodes=9) for seed in range(40)]
        for seed, graph in enumerate(graphs):
            chance = random.Random(seed)
            paper = alike_paper(graph)
            for _ in range(40):
                changed = changed_paper(paper, chance)
                if chance.random() < 0.3:
                    changed = changed_paper(changed, chance) if all(
                        isinstance(row, tuple) and len(row) == 3 for row in changed[1]) and all(
                        isinstance(row, tuple) and row for row in changed[0]) else changed
                fault = fault_by(graph, changed)
                told = refusal(check_alike, graph, changed)
                self.assertEqual(told, None if fault is None else ("BadPaper", *fault))
                kinds[fault and fault[0] and fault[0][0]] += 1
        for place in kinds:
            self.assertGreater(kinds[place], 150, kinds)

    def test_classes_by_hand(self):
        graph = MIXED
        due = ((0, 1), (2, 3), (4,), (5, 6), (7,), (8,), (9,), (10,), (11,), (12,))
        rows = alike_paper(graph)[1]
        self.assertEqual(classes(graph), due)
        self.assertEqual(check_alike(graph=graph, paper=(due, rows)), 10)

        def told(*changed):
            return refusal(check_alike, graph, (tuple(changed), rows))
        for thing in odd_things():
            if thing != (due[0],):
                self.assertEqual(told(*due[:3], thing, *due[4:]), ("BadPaper", ("classes", 3)))
                self.assertEqual(told(*due, thing), ("BadPaper", ("classes", 10)))
        for nodes in ((6, 5), (5, 5), (5, 6, 6), [5, 6], (5, True), (5, 13), (-1, 5), (5, "6"), (), (4, 5), (0, 5),
                      (1,)):
            self.assertEqual(told(*due[:3], nodes, *due[4:]), ("BadPaper", ("classes", 3)))
        self.assertEqual(told((False, 1), *due[1:]), ("BadPaper", ("classes", 0)))
        # A class whose least node isn't greater than that of the one ahead.
        self.assertEqual(told(*due[:2], due[3], due[2], *due[4:]), ("BadPaper", ("classes", 3)))
        # A live node lacks: as many as there are.
        self.assertEqual(told(*due[:-1]), ("BadPaper", ("classes", 9)))
        self.assertEqual(told(*due[:3], (5,), *due[4:]), ("BadPaper", ("classes", 10)))
        self.assertEqual(told(), ("BadPaper", ("classes", 0)))
        # Of one class: unlike kinds, inputs that aren't of one, one that is by itself.
        self.assertEqual(told((0, 1), (2, 3, 4), *due[3:]), ("BadPaper", ("classes", 1)))
        self.assertEqual(told(*due[:4], (7, 8), *due[6:]), ("BadPaper", ("classes", 4)))
        self.assertEqual(told(*due[:7], (10, 12), (11,)), ("BadPaper", ("classes", 7)))
        self.assertEqual(told((0,), (1,), *due[1:]), ("BadPaper", ("classes", 4)))
        # A fault in form further behind is told ahead of what breaks a class.
        self.assertEqual(told((0, 1), (2, 3, 4), *due[3:-1], None), ("BadPaper", ("classes", 8)))

    def test_a_congruence_with_more_classes(self):
        # The twins of one kind apart: a congruence, but no row can show that they aren't alike.
        graph = one_block([("out", 0)], ("return", 1), [("given", 0), ("given", 0)])
        self.assertEqual(check_alike(graph, (((0, 1),), ())), 1)
        for row in ((0, 1, ()), (0, 1, (0,)), (0, 1, (0, 0))):
            self.assertEqual(refusal(check_alike, graph, (((0,), (1,)), (row,))), ("BadPaper", ("rows", 0)))
        self.assertEqual(refusal(check_alike, graph, (((0,), (1,)), ())), ("BadPaper", ("rows", 0)))

    def test_rows_by_hand(self):
        graph = one_block([("out", 2), ("out", 3), ("out", 4), ("out", 5)], ("return", 0), [
            ("given", 0), ("given", 1), ("add", 0, 0), ("add", 0, 1), ("sub", 0, 1), ("sub", 1, 1)])
        parts = tuple((node,) for node in range(6))
        ahead = tuple((one, other, ()) for one in range(6) for other in range(one + 1, 6)
                      if (one, other) not in ((2, 3), (4, 5)))
        rows = (*ahead, (2, 3, (1, 0)), (4, 5, (0,)))
        self.assertEqual(check_alike(graph, (parts, rows)), 6)
        many = len(rows)

        def told(*changed):
            return refusal(check_alike, graph, (parts, tuple(changed)))
        # Of the sums the inputs at place 1 are unlike, and those at 0 and 1; of the differences those at 0 alone.
        for why in ((), (0,), (1,), (0, 0), (0, 1), (1, 1), (1, 2), (-1, 0), (True, 0), (1, 0, 0), [1, 0], None, 1):
            self.assertEqual(told(*ahead, (2, 3, why), rows[-1]), ("BadPaper", ("rows", many - 2)))
        for why in ((), (1,), (0, 0), (0, 1), (2,), (-1,), (False,), (None,), [0], "0", 0):
            self.assertEqual(told(*rows[:-1], (4, 5, why)), ("BadPaper", ("rows", many - 1)))
        for row in odd_things() + [(3, 2, (1, 0)), (2, 2, (0,)), (2, 3), (2, 3, (1, 0), 0), [2, 3, (1, 0)],
                                   (True, 3, ()), (1, 9, ()), ("2", 3, (1, 0)), (-1, 3, ()), (2, 6, ())]:
            self.assertEqual(told(*ahead, row, rows[-1]), ("BadPaper", ("rows", many - 2)))
            self.assertEqual(told(*rows, row), ("BadPaper", ("rows", many)))
        # Unlike kinds are shown by nothing else.
        self.assertEqual(told((0, 1, (0,)), *rows[1:]), ("BadPaper", ("rows", 0)))
        self.assertEqual(told((0, 2, (0, 0)), *rows[1:]), ("BadPaper", ("rows", 0)))
        # Shown by rows ahead alone.
        self.assertEqual(told(rows[-2], *ahead, rows[-1]), ("BadPaper", ("rows", 0)))
        self.assertEqual(told(*ahead[1:], *rows[-2:], ahead[0]), ("BadPaper", ("rows", many - 3)))
        # Twice, and left out.
        for at in range(many):
            self.assertEqual(told(*rows, rows[at]), ("BadPaper", ("rows", many)))
            if at:
                self.assertEqual(told(*rows[:at], *rows[at + 1:]), ("BadPaper", ("rows", many - 1)))
        self.assertEqual(told(), ("BadPaper", ("rows", 0)))
        # Classes are told ahead of rows.
        self.assertEqual(refusal(check_alike, graph, (parts[:-1], (None,))), ("BadPaper", ("classes", 5)))

    def test_places_of_crossed_inputs(self):
        graph = one_block([("out", 3), ("out", 4), ("out", 5), ("out", 6), ("out", 2)], ("return", 0), [
            ("given", 0), ("given", 1), ("given", 2), ("add", 0, 1), ("add", 2, 0), ("xor", 0, 1), ("xor", 0, 2)])
        parts = tuple((node,) for node in range(7))
        ahead = tuple((one, other, ()) for one in range(7) for other in range(one + 1, 7)
                      if (one, other) not in ((3, 4), (5, 6)))
        for why in ((0, 0), (0, 1), (1, 0), (1, 1)):
            first = refusal(check_alike, graph, (parts, (*ahead, (3, 4, why), (5, 6, (1, 0)))))
            self.assertEqual(first, None if why in ((0, 1), (1, 1)) else ("BadPaper", ("rows", len(ahead))))
            second = refusal(check_alike, graph, (parts, (*ahead, (3, 4, (0, 1)), (5, 6, why))))
            self.assertEqual(second, None if why in ((1, 0), (1, 1)) else ("BadPaper", ("rows", len(ahead) + 1)))
        # What is no number, or a truth, is no node.
        at = ahead.index((1, 3, ()))
        for wrong in (True, [1], {1: 1}, "1", None, (1,), 1.0):
            rows = (*ahead[:at], (wrong, 3, ()), *ahead[at + 1:])
            self.assertEqual(refusal(check_alike, graph, (parts, rows)), ("BadPaper", ("rows", at)))
        for wrong in ([3], {3: 3}, "3", None, (3,)):
            rows = (*ahead[:at], (1, wrong, ()), *ahead[at + 1:])
            self.assertEqual(refusal(check_alike, graph, (parts, rows)), ("BadPaper", ("rows", at)))

    def test_lone_by_hand(self):
        graph = one_block([("check", 1), ("out", 2), ("out", 3)], ("return", 2), [
            ("given", 1), ("given", 0), ("div", 0, 1), ("div", 0, 1)])
        parts = ((0,), (1,), (2,), (3,))
        rows = [(one, other, ()) for one in range(4) for other in range(one + 1, 4)]
        self.assertEqual(check_alike(graph, (parts, tuple(rows))), 4)
        for why in ((0,), (1,), (0, 0)):
            self.assertEqual(refusal(check_alike, graph, (parts, (*rows[:-1], (2, 3, why)))),
                             ("BadPaper", ("rows", 5)))
        self.assertEqual(refusal(check_alike, graph, ((*parts[:2], (2, 3)), ())), ("BadPaper", ("classes", 2)))

    def test_tall(self):
        # Forty classes: a row for each two.
        paper = alike_paper(TALL)
        self.assertEqual(len(paper[1]), 40 * 39 // 2)
        self.assertEqual(check_alike(TALL, paper), 40)
        self.assertEqual(refusal(check_alike, TALL, (paper[0], paper[1][:-1])), ("BadPaper", ("rows", 779)))

    def test_refused(self):
        paper = alike_paper(STEADY)
        for thing in odd_things():
            self.assertEqual(refusal(check_alike, thing, thing)[0], "BadGraph")
            self.assertEqual(refusal(alike_paper, thing)[0], "BadGraph")
            self.assertEqual(refusal(check_alike, LOOPED, thing), ("Unsound", 6))
            if thing != ((), ()):
                told = refusal(check_alike, STEADY, thing)
                self.assertEqual(told[0], "BadPaper")
                if not isinstance(thing, tuple) or len(thing) != 2:
                    self.assertEqual(told, ("BadPaper", None))
            if not isinstance(thing, tuple):
                self.assertEqual(refusal(check_alike, STEADY, (paper[0], thing)), ("BadPaper", None))
                self.assertEqual(refusal(check_alike, STEADY, (thing, paper[1])), ("BadPaper", None))
        self.assertEqual(refusal(alike_paper, LOOPED), ("Unsound", 6))
        for wrong in (list(paper), (*paper, ()), paper[:1], (list(paper[0]), paper[1]), (paper[0], list(paper[1]))):
            self.assertEqual(refusal(check_alike, STEADY, wrong), ("BadPaper", None))
        self.assertEqual(check_alike(LEAST, ((), ())), 0)
        self.assertEqual(refusal(check_alike, LEAST, ((), ((0, 1, ()),))), ("BadPaper", ("rows", 0)))


if __name__ == "__main__":
    unittest.main()
