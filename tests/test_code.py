import random
import unittest

from growing import grown
from making import BARE, LEAST, LOOPED, STEADY, TALL
from odd import odd_things
from running import some_words
from test_demand import STORING, TURNING
from test_placedrun import HASTY, some_placements
from test_placements import EARLY, with_slot
from trying import Trial, refusal

from seaplace.code import check_code, code_of
from seaplace.coderun import is_code, need_code, run_code
from seaplace.codetext import code_text
from seaplace.demand import run
from seaplace.graphs import block_of, live_nodes, names_of, predecessors
from seaplace.moves import fewest_moves, single_moves
from seaplace.placements import early_placement, late_placement
from seaplace.registers import registers_of


def forked(node):
    """A branch to a block and to another one ahead of it; put out is a phi, 3, or another node."""
    blocks = (
        ("top", (), ("if", 0, "side", "other")),
        ("other", (("out", 1),), ("goto", "side")),
        ("side", (("out", node), ("out", 1), ("out", 2)), ("return", 0)),
    )
    return (blocks, (("given", 0), ("given", 1), ("given", 2), ("phi", "side", (1, 2)), ("phi", "side", (1, 1))))


def shape_of(graph, placement, registers):
    """What is due in code, block by block, as a list of things one behind the other.

    ("row", ROW); ("jump", what the row begins with, labels of the rows to which it leads); ("label", L); ("moves",
    PAIRS). A label is a block's name, or (name, 1 or 2) of moves on a way of its "if".
    """
    trial = Trial(graph)
    held, placed = dict(registers), dict(placement)
    found = []

    def on(name, way):
        at = predecessors(graph, way).index(name)
        phis = [node for node in sorted(trial.phis) if graph[1][node][1] == way]
        return tuple((held[node], held[graph[1][node][2][at]]) for node in phis)

    for name in names_of(graph):
        found += [("label", name), ("row", ("enter", name))]
        if name == names_of(graph)[0]:
            for node in sorted(trial.live):
                if trial.kinds[node] == "given":
                    found.append(("row", ("given", held[node], graph[1][node][1])))
        deeds = trial.deeds(name)
        for place in range(len(deeds) + 1):
            for node in trial.order():
                if placed[node] == (name, place):
                    found.append(("row", own_row(graph[1][node], held, node)))
            if place < len(deeds):
                found.append(("row", deed_row(deeds[place], held, name, place)))
        end = block_of(graph, name)[2]
        if end[0] == "return":
            found.append(("row", ("return", held[end[1]])))
        elif end[0] == "goto":
            found += [("moves", on(name, end[1])), ("jump", ("goto",), [end[1]])]
        else:
            busy = [any(one != other for one, other in on(name, way)) for way in end[2:]]
            labels = [(name, at) if busy[at] else end[2 + at] for at in (0, 1)]
            found.append(("jump", ("if", held[end[1]]), labels))
            for at in (0, 1):
                if busy[at]:
                    found += [("label", (name, at)), ("moves", on(name, end[2 + at]))]
                    found.append(("jump", ("goto",), [end[2 + at]]))
    return found


def own_row(thing, held, node):
    """The row of a node."""
    if thing[0] == "word":
        return ("word", held[node], thing[1])
    if thing[0] == "load":
        return ("load", held[node], thing[1], held[thing[2]])
    return (thing[0], held[node], *(held[one] for one in thing[1:]))


def deed_row(deed, held, name, place):
    """The row of a deed."""
    if deed[0] == "out":
        return ("out", held[deed[1]])
    if deed[0] == "store":
        return ("store", deed[1], held[deed[2]], held[deed[3]])
    return ("check", held[deed[1]], name, place)


def built(shape, mover):
    """Code by its shape, with the moves that a function of pairs tells."""
    labels, rows = {}, []
    for kind, thing, *more in shape:
        if kind == "label":
            labels[thing] = len(rows)
        elif kind == "row":
            rows.append(thing)
        elif kind == "jump":
            rows.append((thing, more[0]))
        else:
            rows += [("move", *pair) for pair in mover(thing)]
    return tuple((*row[0], *(labels[one] for one in row[1])) if isinstance(row[0], tuple) else row for row in rows)


def fault_by(shape, registers, code):
    """The row with which code isn't as good, or None, and how many moves it has."""
    own = {number for _, number in registers}
    labels, jumps, at, many = {}, [], 0, 0
    for kind, thing, *more in shape:
        row = code[at] if at < len(code) else ()
        if kind == "label":
            labels[thing] = at
        elif kind == "moves":
            words, first = {number: number for number in range(64)}, at
            while at < len(code) and code[at][0] == "move":
                words[code[at][1]] = words[code[at][2]]
                at += 1
            if any(words[number] != dict(thing).get(number, number) for number in own):
                return first, None
            many += at - first
        elif kind == "row":
            if row != thing:
                return at, None
            at += 1
        else:
            if row[:len(thing)] != thing:
                return at, None
            jumps.append((at, more[0]))
            at += 1
    if at < len(code):
        return at, None
    for number, ways in jumps:
        if [labels[one] for one in ways] != list(code[number][-len(ways):]):
            return number, None
    return None, many


def some_registers(graph, placement, chance):
    """Right registers, the fewest ones called otherwise, or each node's own."""
    if chance.random() < 0.5:
        numbers = chance.sample(range(64), 64)
        return tuple((node, numbers[number]) for node, number in registers_of(graph, placement))
    return tuple(zip(live_nodes(graph), chance.sample(range(64), len(live_nodes(graph)))))


def another_mover(registers, chance):
    """A function that tells moves which do pairs by any registers that no node has."""
    own = {number for _, number in registers}
    free = [number for number in range(64) if number not in own]

    def mover(pairs):
        moves = list(single_moves(pairs, spare=chance.choice(free)))
        for _ in range(chance.choice((0, 0, 1, 3))):
            moves.insert(chance.randrange(len(moves) + 1), (chance.choice(free[:2]), chance.randrange(64)))
            if one_by_one_does(pairs, moves, own):
                continue
            moves = [(free[-1], to) for to, _ in pairs] + list(single_moves(pairs, spare=free[0]))
        if chance.random() < 0.3:
            moves.append((pairs[0][0], pairs[0][0]) if pairs else (free[0], free[0]))
        return moves
    return mover


def one_by_one_does(pairs, moves, own):
    """Whether moves do pairs for all registers of nodes."""
    words = {number: number for number in range(64)}
    for one, other in moves:
        words[one] = words[other]
    return all(words[number] == dict(pairs).get(number, number) for number in own)


class Code(unittest.TestCase):
    def test_row_by_row(self):
        moved = {"goto": 0, "first": 0, "second": 0, "both": 0, "none": 0}
        for seed in range(130):
            graph = grown(seed, blocks=7, deeds=3, nodes=14, wide=seed % 3 == 0)
            chance = random.Random(seed)
            for placement in some_placements(graph, chance)[:3]:
                registers = registers_of(graph, placement)
                self.due(graph, placement, registers, code_of(graph, placement), moved)
                self.assertEqual(code_of(graph, placement, registers=None), code_of(graph, placement))
                registers = some_registers(graph, placement, chance)
                self.due(graph, placement, registers, code_of(graph, placement, registers=registers), moved)
        for kind in moved:
            self.assertGreater(moved[kind], 20, kind)

    def due(self, graph, placement, registers, code, moved):
        """Code is what is due, with some fewest moves; which kinds of moves it has."""
        shape = shape_of(graph, placement, registers)
        self.assertEqual(fault_by(shape, registers, code)[0], None)
        many = sum(fewest_moves(thing[1]) for thing in shape if thing[0] == "moves")
        self.assertEqual(fault_by(shape, registers, code)[1], many)
        spare = min({*range(64)} - {number for _, number in registers})
        self.assertLessEqual({one for row in code if row[0] == "move" for one in row[1:]},
                             {spare, *[number for _, number in registers]})
        self.assertEqual(check_code(graph, placement, registers, code), many)
        need_code(code)
        for at, thing in enumerate(shape):
            if thing[0] == "moves" and shape[at - 1][0] != "label":
                moved["goto"] += any(one != other for one, other in thing[1])
            if thing[0] == "jump" and len(thing[2]) == 2:
                busy = [isinstance(label, tuple) for label in thing[2]]
                moved["both" if all(busy) else "none" if not any(busy) else "first" if busy[0] else "second"] += 1

    def test_by_hand(self):
        graph = ((("top", (("check", 0), ("store", 1, 0, 1), ("out", 3)), ("return", 2)),),
                 (("given", 1), ("given", 0), ("load", 1, 0, ("top", 2)), ("div", 1, 0)))
        placement = ((2, ("top", 2)), (3, ("top", 1)))
        registers = ((0, 5), (1, 63), (2, 6), (3, 7))
        code = (
            ("enter", "top"), ("given", 5, 1), ("given", 63, 0), ("check", 5, "top", 0), ("div", 7, 63, 5),
            ("store", 1, 5, 63), ("load", 6, 1, 5), ("out", 7), ("return", 6),
        )
        self.assertEqual(code_of(graph=graph, placement=placement, registers=registers), code)
        self.assertEqual(check_code(graph=graph, placement=placement, registers=registers, code=code), 0)
        self.assertEqual(code_of(LEAST, ()), (("enter", "only"), ("goto", 2), ("enter", "next"), ("goto", 2)))
        self.assertEqual(code_of(BARE, (), registers=((0, 4), (1, 4))), (
            ("enter", "top"), ("given", 4, 0), ("out", 4), ("if", 4, 4, 6), ("enter", "side"), ("goto", 6),
            ("enter", "loop"), ("check", 4, "loop", 0), ("if", 4, 6, 9), ("enter", "last"), ("return", 4),
        ))

    def test_moves_by_hand(self):
        graph = forked(3)
        each = ((0, 0), (1, 1), (2, 2), (3, 3))
        rows = (
            ("enter", "top"), ("given", 0, 0), ("given", 1, 1), ("given", 2, 2), ("if", 0, 5, 7),
            ("move", 3, 1), ("goto", 11), ("enter", "other"), ("out", 1), ("move", 3, 2), ("goto", 11),
            ("enter", "side"), ("out", 3), ("out", 1), ("out", 2), ("return", 0),
        )
        self.assertEqual(code_of(graph, (), registers=each), rows)
        self.assertEqual(check_code(graph, (), each, rows), 2)
        # One of the inputs has the phi's own register: nothing is moved on that way.
        shared = ((0, 0), (1, 1), (2, 2), (3, 3))
        graph = ((*graph[0][:2], ("side", (("out", 3),), ("return", 0))), graph[1])
        for one, ways in ((1, (7, 5)), (2, (5, 7))):
            shared = ((0, 0), (1, 1), (2, 2), (3, one))
            code = code_of(graph, (), registers=shared)
            self.assertEqual(check_code(graph, (), shared, code), 1)
            self.assertEqual(code[4][0], "if")
            self.assertEqual([code[way][0] for way in code[4][2:]],
                             ["enter", "enter"] if one == 1 else ["move", "enter"])
        # On a loop's way back two registers change places, by the least register that no node has.
        placement = early_placement(TURNING)
        registers = tuple((node, 2 * node) for node in live_nodes(TURNING))
        code = code_of(TURNING, placement, registers=registers)
        moves = [row for row in code if row[0] == "move"]
        self.assertEqual(check_code(TURNING, placement, registers, code), len(moves))
        self.assertIn(1, [one for row in moves for one in row[1:]])
        self.assertEqual(max(row[1] for row in moves), 10)

    def test_as_good(self):
        more = 0
        for seed in range(130):
            graph = grown(seed, blocks=7, deeds=3, nodes=14, wide=seed % 3 == 0)
            chance = random.Random(seed)
            for placement in some_placements(graph, chance)[:2]:
                registers = some_registers(graph, placement, chance)
                shape = shape_of(graph, placement, registers)
                code = built(shape, another_mover(registers, chance))
                if not is_code(code):
                    continue
                row, many = fault_by(shape, registers, code)
                self.assertIsNone(row)
                self.assertEqual(check_code(graph, placement, registers, code), many)
                more += code != code_of(graph, placement, registers=registers)
                given, most = some_words(chance), chance.choice((1, 5, 200))
                self.assertEqual(run_code(code, given, most=most), run(graph, given, most=most))
        self.assertGreater(more, 60)

    def test_runs_as_the_graph_does(self):
        ends = set()
        for seed in range(130):
            graph = grown(seed, blocks=6, deeds=4, nodes=14, wide=seed % 3 == 0)
            chance = random.Random(seed)
            for placement in some_placements(graph, chance)[:3]:
                registers = some_registers(graph, placement, chance)
                for code in (code_of(graph, placement), code_of(graph, placement, registers=registers)):
                    given, most = some_words(chance), chance.choice((1, 5, 200))
                    told = run_code(code, given, most=most)
                    self.assertEqual(told, run(graph, given, most=most))
                    ends.add(told[1][0])
        self.assertEqual(ends, {"returned", "fault", "stopped"})
        for graph in (STEADY, TALL, HASTY, STORING, TURNING, BARE, LEAST):
            for placement in (early_placement(graph), late_placement(graph)):
                for given in ((), (3, 5, 1), (65535, 65535, 65535, 65535)):
                    told = run_code(code_of(graph, placement), given, most=2000)
                    self.assertEqual(told, run(graph, given, most=2000))

    def test_not_as_good(self):
        kinds = {"row": 0, "move": 0, "jump": 0, "good": 0}
        for seed in range(150):
            graph = grown(seed, blocks=6, deeds=2, nodes=9, wide=seed % 3 == 0)
            chance = random.Random(seed)
            placement = chance.choice(some_placements(graph, chance))
            registers = some_registers(graph, placement, chance)
            shape = shape_of(graph, placement, registers)
            code = built(shape, another_mover(registers, chance))
            for _ in range(25):
                changed = self.changed(code, chance)
                if not is_code(changed):
                    row = refusal(need_code, changed)
                    self.assertEqual(refusal(check_code, graph, placement, registers, changed), row)
                    continue
                row, _ = fault_by(shape, registers, changed)
                told = refusal(check_code, graph, placement, registers, changed)
                self.assertEqual(told, None if row is None else ("BadCode", row))
                kind = "good" if row is None else "row"
                if row is not None and row < len(changed) and changed[row][0] in ("move", "goto", "if"):
                    kind = "move" if changed[row][0] == "move" else "jump"
                kinds[kind] += 1
        for kind in kinds:
            self.assertGreater(kinds[kind], 40, kinds)

    def changed(self, code, chance):
        """Code with a row changed, left out, twice, exchanged, one more, or cut off."""
        rows = list(code)
        at = chance.randrange(len(rows))
        way = chance.randrange(8)
        if way == 0:
            del rows[at]
        elif way == 1:
            rows.insert(at, rows[at])
        elif way == 2:
            other = chance.randrange(len(rows))
            rows[at], rows[other] = rows[other], rows[at]
        elif way == 3:
            rows = rows[:at]
        elif way == 4:
            rows.insert(at, ("move", chance.randrange(64), chance.randrange(64)))
        elif way == 5:
            rows.append(chance.choice((("out", 1), ("move", 1, 1), ("enter", "a"), rows[at])))
        else:
            row = list(rows[at])
            place = chance.randrange(1, len(row))
            if isinstance(row[place], int):
                row[place] = max(0, row[place] + chance.choice((-1, 1)))
            rows[at] = tuple(row)
        return tuple(rows)

    def test_not_as_good_by_hand(self):
        graph = forked(3)
        each = ((0, 0), (1, 1), (2, 2), (3, 3))
        code = code_of(graph, (), registers=each)

        def told(*rows):
            return refusal(check_code, graph, (), each, tuple(rows))
        self.assertIsNone(told(*code))
        # Other moves: by a register that no node has; more than are needed.
        self.assertIsNone(told(*self.moved(code, 9, ("move", 9, 2), ("move", 3, 9))))
        self.assertEqual(told(*self.moved(code, 9, ("move", 9, 1), ("move", 3, 9))), ("BadCode", 9))
        self.assertEqual(told(*self.moved(code, 9, ("move", 3, 2), ("move", 2, 3), ("move", 1, 3))), ("BadCode", 9))
        # None where there should be some: the goto stands there.
        self.assertEqual(told(*self.moved(code, 9)), ("BadCode", 9))
        # A way along which nothing is moved correctly is told at its first move.
        self.assertEqual(told(*code[:5], ("move", 3, 0), *code[6:]), ("BadCode", 5))
        # Each row left out: what is behind isn't due there, or it ends too early.
        for at in range(len(code)):
            if code[at][0] not in ("move", "goto", "if"):
                shifted = self.moved(code, at) if at != 0 else code[1:]
                answer = refusal(need_code, tuple(shifted)) or ("BadCode", at)
                self.assertEqual(told(*shifted), answer)
        for at in range(len(code) + 1):
            cut = code[:at]
            answer = refusal(need_code, cut)
            self.assertEqual(told(*cut), answer or (None if at == len(code) else ("BadCode", at)))
        self.assertEqual(told(), ("BadCode", 0))
        self.assertEqual(told(*code, ("out", 0)), ("BadCode", len(code)))
        self.assertEqual(told(*code, ("move", 9, 9)), ("BadCode", len(code)))
        # Jumps are looked at behind all rows.
        jumps = [("BadCode", 4), ("BadCode", 6), ("BadCode", 10)]
        wrong = [("if", 0, 6, 7), ("goto", 12), ("goto", 15)]
        for place, (_, at) in enumerate(jumps):
            changed = code[:at] + (wrong[place],) + code[at + 1:]
            self.assertEqual(told(*changed), jumps[place])
            self.assertEqual(told(*changed[:-1], ("return", 1)), ("BadCode", 15))
        self.assertEqual(told(*code[:4], wrong[0], *code[5:10], wrong[2], *code[11:]), ("BadCode", 4))
        self.assertEqual(told(*code[:4], ("if", 0, 7, 5), *code[5:]), ("BadCode", 4))
        self.assertEqual(told(*code[:4], ("if", 0, 11, 7), *code[5:]), ("BadCode", 4))
        # Moves that don't do their pairs, where something else stands behind, are told at the first one.
        for row in (("out", 0), ("goto", 15)):
            self.assertEqual(told(*code[:9], ("move", 3, 1), row, *code[11:]), ("BadCode", 9))
        self.assertEqual(told(*code[:9], ("move", 3, 2), ("out", 0), *code[11:]), ("BadCode", 10))

    def moved(self, code, at, *rows):
        """Code with these rows in the place of one, and jumps to the rows that are the same."""
        more = len(rows) - 1

        def to(row):
            return row + more if row > at else row
        found = [(row[0], to(row[1])) if row[0] == "goto" else
                 (*row[:2], to(row[2]), to(row[3])) if row[0] == "if" else row for row in code]
        return found[:at] + list(rows) + found[at + 1:]

    def test_moves_where_nothing_is_to_be_moved(self):
        graph = forked(2)
        each = ((0, 0), (1, 1), (2, 2))
        code = code_of(graph, (), registers=each)
        self.assertEqual([row[0] for row in code[4:8]], ["if", "enter", "out", "goto"])
        ahead, behind = code[:4], code[8:]
        # Ahead of a block's goto there may stand moves that change nothing; the block behind begins two rows later.
        rows = (*ahead, ("if", 0, 10, 5), *code[5:7], ("move", 8, 0), ("move", 0, 8), ("goto", 10), *behind)
        self.assertEqual(check_code(graph, (), each, rows), 2)
        self.assertEqual(refusal(check_code, graph, (), each, rows[:7] + (("move", 0, 8), ("move", 8, 0)) + rows[9:]),
                         ("BadCode", 7))
        # On a way of an "if" there may not.
        rows = (*ahead, ("if", 0, 10, 5), ("move", 8, 0), ("goto", 7), *code[5:7], ("goto", 10), *behind)
        self.assertEqual(refusal(check_code, graph, (), each, rows), ("BadCode", 5))
        rows = (*ahead, ("if", 0, 10, 5), ("goto", 6), ("enter", "other"), code[6], ("goto", 9), *behind)
        self.assertEqual(refusal(check_code, graph, (), each, rows), ("BadCode", 5))

    def test_refused(self):
        wrong = with_slot(EARLY, 6, ("done", 1))
        right = registers_of(STEADY, EARLY)
        shared = tuple((node, 0) for node, _ in right)
        good = code_of(STEADY, EARLY)
        for thing in odd_things():
            self.assertEqual(refusal(code_of, thing, EARLY, registers=thing)[0], "BadGraph")
            self.assertEqual(refusal(check_code, thing, EARLY, thing, thing)[0], "BadGraph")
            for ask in (lambda *things: refusal(code_of, *things, registers=thing),
                        lambda *things: refusal(check_code, *things, thing, thing)):
                self.assertEqual(ask(STEADY, thing), ("BadPlacement", None))
                self.assertEqual(ask(LOOPED, thing), ("BadPlacement", None))
                self.assertEqual(ask(STEADY, wrong), ("BadPlacement", 6))
                if thing is not None and not isinstance(thing, tuple):
                    self.assertEqual(ask(STEADY, EARLY), ("BadPaper", None))
            self.assertEqual(refusal(code_of, STEADY, EARLY, registers=(thing,)), ("BadPaper", ("row", 0)))
            self.assertEqual(refusal(check_code, STEADY, EARLY, (thing,), thing), ("BadPaper", ("row", 0)))
            self.assertEqual(refusal(check_code, STEADY, EARLY, shared, thing), ("BadPaper", ("clash", 1)))
            if not isinstance(thing, tuple):
                self.assertEqual(refusal(check_code, STEADY, EARLY, right, thing), ("BadCode", None))
            self.assertEqual(refusal(check_code, STEADY, EARLY, right, (*good[:2], thing)), ("BadCode", 2))
        self.assertEqual(refusal(check_code, STEADY, EARLY, None, good), ("BadPaper", None))
        self.assertEqual(refusal(code_of, STEADY, EARLY, registers=shared), ("BadPaper", ("clash", 1)))
        self.assertEqual(refusal(check_code, STEADY, EARLY, right, (("enter", "top"),) * 2001), ("BadCode", None))
        # What can't stand at all is told ahead of what isn't due.
        self.assertEqual(refusal(check_code, STEADY, EARLY, right, (("out", 0), ("out", 64))), ("BadCode", 1))
        self.assertEqual(refusal(check_code, STEADY, EARLY, right, (("out", 0), ("out", 63))), ("BadCode", 0))
        self.assertTrue(code_text(good))


if __name__ == "__main__":
    unittest.main()
