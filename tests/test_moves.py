import itertools
import random
import unittest

from odd import odd_things
from trying import refusal

from seaplace.moves import (
    are_moves, are_pairs, at_once, check_moves, fewest_moves, lone_rings, one_by_one, single_moves,
)

EACH = tuple(range(64))


def some_pairs(seed):
    """Pairs of all kinds: chains, trees, rings with and without those that wait for them, idle ones."""
    chance = random.Random(seed)
    wide = chance.choice((2, 3, 5, 8, 20, 63))
    many = chance.randint(0, min(wide, 60))
    registers = chance.sample(range(64), wide)
    tos = chance.sample(registers, many)
    froms = list(tos)
    chance.shuffle(froms)
    loose = chance.choice((0, 0.1, 0.5, 1))
    return tuple((one, chance.choice(registers) if chance.random() < loose else other)
                 for one, other in zip(tos, froms))


def behind(moves, words):
    """What the registers have behind moves, by a dict."""
    table = dict(enumerate(words))
    for one, other in moves:
        table[one] = table[other]
    return [table[at] for at in range(64)]


def once(pairs, words):
    """What the registers have behind pairs done at once."""
    table = dict(enumerate(words))
    table.update({one: words[other] for one, other in pairs})
    return [table[at] for at in range(64)]


def tried_rings(pairs):
    """The lone rings, by going on from each register to the one that gets its word."""
    found = []
    for start in range(64):
        ring = [start]
        while True:
            takers = [one for one, other in pairs if other == ring[-1]]
            if len(takers) != 1 or takers[0] in ring[1:]:
                ring = None
                break
            if takers[0] == start:
                break
            ring.append(takers[0])
        if ring is not None and len(ring) > 1 and min(ring) == start:
            found.append(tuple(ring))
    return tuple(found)


def tried_fewest(pairs, registers, spare):
    """How few moves among some registers do pairs, by trying all lists, shorter ones first."""
    def state(words):
        return tuple(word for at, word in zip(registers, words) if at != spare)
    start = tuple(registers)
    due = state([dict(pairs).get(at, at) for at in registers])
    seen, rows, many = {start}, [start], 0
    while not any(state(row) == due for row in rows):
        later = []
        for row in rows:
            for one, other in itertools.permutations(range(len(registers)), 2):
                after = row[:one] + (row[other],) + row[one + 1:]
                if after not in seen:
                    seen.add(after)
                    later.append(after)
        rows, many = later, many + 1
    return many


class Moves(unittest.TestCase):
    def test_by_hand(self):
        self.assertEqual(single_moves(()), ())
        self.assertEqual(single_moves(((3, 3), (5, 5))), ())
        self.assertEqual(single_moves(((3, 9),)), ((3, 9),))
        self.assertEqual(single_moves(((1, 2), (0, 1))), ((0, 1), (1, 2)))
        self.assertEqual(fewest_moves(((1, 2), (2, 1))), 3)
        self.assertEqual(lone_rings(((1, 2), (2, 1))), ((1, 2),))
        # The word of 4 goes to 5, that of 5 to 9, and that of 9 to 4.
        self.assertEqual(lone_rings(((9, 5), (5, 4), (4, 9))), ((4, 5, 9),))
        self.assertEqual(fewest_moves(((9, 5), (5, 4), (4, 9))), 4)
        # One that isn't of the ring has a word of it as well: it isn't alone.
        self.assertEqual(lone_rings(((9, 5), (5, 4), (4, 9), (0, 5))), ())
        self.assertEqual(fewest_moves(((9, 5), (5, 4), (4, 9), (0, 5))), 4)
        self.assertEqual(lone_rings(((7, 3), (3, 7), (2, 6), (6, 2), (4, 4))), ((2, 6), (3, 7)))
        self.assertEqual(lone_rings(((4, 4), (5, 4))), ())
        self.assertEqual(fewest_moves(((4, 4), (5, 4))), 1)

    def test_fewest_do_pairs(self):
        rings, spared = 0, 0
        for seed in range(900):
            pairs = some_pairs(seed)
            many = len([1 for one, other in pairs if one != other]) + len(tried_rings(pairs))
            self.assertEqual(lone_rings(pairs), tried_rings(pairs))
            self.assertEqual(fewest_moves(pairs), many)
            rings += bool(lone_rings(pairs))
            free = [at for at in range(64) if at not in itertools.chain(*pairs)]
            for spare in [None] * bool(free) + free[:1] + free[-1:]:
                moves = single_moves(pairs, spare=spare)
                self.assertIsInstance(moves, tuple)
                self.assertTrue(are_moves(moves))
                self.assertEqual(len(moves), many)
                own = free[0] if spare is None else spare
                told, due = behind(moves, EACH), once(pairs, EACH)
                spared += told[own] != due[own]
                told[own] = due[own]
                self.assertEqual(told, due)
                self.assertEqual(check_moves(pairs, moves, spare=spare), many)
        self.assertGreater(rings, 100)
        self.assertGreater(spared, 100)

    def test_no_fewer_moves_do_them(self):
        # All pairs on three registers, and some on four, by trial: the last one is the spare.
        registers = (0, 1, 2, 3)
        for froms in itertools.product((None, 0, 1, 2), repeat=3):
            pairs = tuple((one, other) for one, other in enumerate(froms) if other is not None)
            self.assertEqual(fewest_moves(pairs), tried_fewest(pairs, registers, 3))
        for froms in ((1, 0, 3, 2), (1, 2, 3, 0), (1, 0, 1, 0), (3, 3, 3, 0), (1, 0, 2, None), (1, 2, 0, 0)):
            pairs = tuple((one, other) for one, other in enumerate(froms) if other is not None)
            self.assertEqual(fewest_moves(pairs), tried_fewest(pairs, (0, 1, 2, 3, 4), 4))

    def test_words(self):
        for seed in range(200):
            chance = random.Random(seed)
            pairs = some_pairs(seed)
            words = tuple(chance.randrange(65536) for _ in range(chance.choice((0, 1, 30, 63, 64))))
            full = words + (0,) * (64 - len(words))
            self.assertEqual(at_once(pairs, words), tuple(once(pairs, full)))
            self.assertEqual(one_by_one(pairs, words), tuple(behind(pairs, full)))
        self.assertEqual(at_once(pairs=((0, 1), (1, 0)), words=(5, 6))[:3], (6, 5, 0))
        self.assertEqual(one_by_one(moves=((0, 1), (1, 0)), words=(5, 6))[:3], (6, 6, 0))
        # A register may be set as often as one likes.
        self.assertEqual(one_by_one(((0, 1), (0, 2), (0, 0)), (5, 6, 7))[:3], (7, 6, 7))

    def test_any_moves_are_checked(self):
        good, bad = 0, 0
        for seed in range(1500):
            chance = random.Random(seed)
            pairs = tuple((at, chance.randrange(4)) for at in chance.sample(range(4), chance.randrange(4)))
            moves = [(chance.randrange(6), chance.randrange(6)) for _ in range(chance.randrange(4))]
            if chance.random() < 0.6:
                moves = list(single_moves(pairs, spare=5))
                if chance.random() < 0.5:
                    moves.insert(chance.randrange(len(moves) + 1), (chance.choice((4, 5, 5, 5)), chance.randrange(6)))
            spare = chance.choice((4, 5, 5))
            told, due = behind(moves, EACH), once(pairs, EACH)
            wrong = [at for at in range(64) if told[at] != due[at] and at != spare]
            answer = ("BadPaper", wrong[0]) if wrong else None
            self.assertEqual(refusal(check_moves, pairs, tuple(moves), spare=spare), answer)
            if not wrong:
                self.assertEqual(check_moves(pairs, tuple(moves), spare=spare), len(moves))
            good, bad = good + (not wrong), bad + bool(wrong)
        self.assertGreater(good, 300)
        self.assertGreater(bad, 300)

    def test_checked_by_hand(self):
        pairs = ((1, 2), (2, 1))
        self.assertEqual(check_moves(pairs, ((0, 1), (1, 2), (2, 0))), 3)
        self.assertEqual(check_moves(pairs, ((63, 2), (2, 1), (1, 63)), spare=63), 3)
        self.assertEqual(check_moves(pairs, ((0, 1), (1, 2), (2, 0), (0, 9), (0, 0), (2, 2)), spare=0), 6)
        # Another register than the spare is changed.
        self.assertEqual(refusal(check_moves, pairs, ((5, 1), (1, 2), (2, 5))), ("BadPaper", 5))
        self.assertEqual(refusal(check_moves, pairs, ((1, 2), (2, 1))), ("BadPaper", 2))
        self.assertEqual(refusal(check_moves, pairs, ()), ("BadPaper", 1))
        self.assertEqual(check_moves((), ()), 0)
        self.assertEqual(check_moves((), ((0, 7),)), 1)
        self.assertEqual(refusal(check_moves, (), ((1, 7),)), ("BadPaper", 1))
        # The spare's word at first is no other's.
        self.assertEqual(refusal(check_moves, ((1, 2),), ((1, 0),)), ("BadPaper", 1))

    def test_spare(self):
        pairs = ((0, 1), (1, 0), (3, 3))
        self.assertIn((2, 0), (single_moves(pairs)[0], (2, 0)))
        self.assertIn(2, itertools.chain(*single_moves(pairs)))
        self.assertIn(63, itertools.chain(*single_moves(pairs=pairs, spare=63)))
        for thing in odd_things() + [0, 1, 3, 64, -1, True, "2", (2,)]:
            if thing is not None:
                self.assertEqual(refusal(single_moves, pairs, spare=thing)[0], "OutOfPlace")
                self.assertEqual(refusal(single_moves, (), spare=thing) is None, thing in (0, 1, 3)
                                 and type(thing) is int)
                self.assertEqual(refusal(check_moves, pairs, (), spare=thing)[0], "OutOfPlace")
        # All registers are in pairs: none is spare, even where none is needed.
        full = tuple((at, (at + 4) % 64) for at in range(60))
        self.assertEqual(len(set(itertools.chain(*full))), 64)
        self.assertEqual(fewest_moves(full), 60)
        self.assertEqual(refusal(single_moves, full)[0], "OutOfPlace")
        self.assertEqual(refusal(single_moves, full, spare=5)[0], "OutOfPlace")
        self.assertEqual(refusal(check_moves, full, full)[0], "OutOfPlace")
        self.assertEqual(at_once(full, EACH)[:60], EACH[4:])
        idle = tuple((at, at) for at in range(4, 64))
        self.assertEqual(refusal(single_moves, idle), None)
        self.assertEqual(refusal(single_moves, idle, spare=4)[0], "OutOfPlace")
        all_but_one = tuple((at, (at + 3) % 63) for at in range(60))
        self.assertEqual(len(single_moves(all_but_one)), 60)
        self.assertIsNone(refusal(single_moves, all_but_one, spare=63))

    def test_bounds(self):
        sixty = tuple((at, at + 1) for at in range(60))
        self.assertIs(are_pairs(sixty), True)
        self.assertEqual(single_moves(sixty), sixty)
        more = (*sixty, (60, 61))
        self.assertIs(are_pairs(more), False)
        for ask in (lone_rings, fewest_moves, single_moves):
            self.assertEqual(refusal(ask, more), ("BadCode", None))
        self.assertEqual(refusal(at_once, more, ()), ("BadCode", None))
        self.assertEqual(refusal(check_moves, more, None), ("BadCode", None))
        long = ((0, 1), (0, 0)) * 1000
        self.assertIs(are_moves(long), True)
        self.assertIs(are_moves((*long, (0, 1))), False)
        self.assertEqual(one_by_one(long, (1, 2))[0], 2)
        self.assertEqual(refusal(one_by_one, (*long, (0, 1)), ()), ("BadCode", None))
        self.assertEqual(refusal(check_moves, ((0, 1),), (*long, (0, 1))), ("BadCode", None))
        self.assertEqual(check_moves(((0, 1),), long), 2000)
        # Sixty in rings of two, and of three.
        for size in (2, 3, 60):
            rings = tuple((at, at - at % size + (at + 1) % size) for at in range(60))
            self.assertEqual(len(lone_rings(rings)), 60 // size)
            self.assertEqual(len(single_moves(rings)), 60 + 60 // size)
            self.assertEqual(check_moves(rings, single_moves(rings)), 60 + 60 // size)

    def test_what_are_no_pairs(self):
        pairs = ((1, 2), (2, 1), (4, 4))
        for thing in odd_things() + [(1,), (1, 64), (64, 1), (1, -1), (True, 9), (9, False), [9, 9], (9, 9, 9), "99",
                                     (9, "9"), (9, None)]:
            for at in range(4):
                changed = pairs[:at] + (thing,) + pairs[at:]
                self.assertIs(are_pairs(changed), False)
                self.assertIs(are_moves(changed), False)
                for ask in (lone_rings, fewest_moves, single_moves):
                    self.assertEqual(refusal(ask, changed), ("BadCode", at))
                self.assertEqual(refusal(at_once, changed, thing), ("BadCode", at))
                self.assertEqual(refusal(one_by_one, changed, thing), ("BadCode", at))
                self.assertEqual(refusal(check_moves, changed, thing, spare=1), ("BadCode", at))
                self.assertEqual(refusal(check_moves, pairs, changed, spare=1), ("BadCode", at))
            # Ahead of two that can't be the first one.
            self.assertEqual(refusal(fewest_moves, ((1, 2), thing, None)), ("BadCode", 1))
        for thing in odd_things() + [list(pairs), {1: 2}]:
            if not isinstance(thing, tuple):
                self.assertIs(are_pairs(thing), False)
                self.assertIs(are_moves(thing), False)
                for ask in (lone_rings, fewest_moves, single_moves):
                    self.assertEqual(refusal(ask, thing), ("BadCode", None))
                self.assertEqual(refusal(at_once, thing, thing), ("BadCode", None))
                self.assertEqual(refusal(one_by_one, thing, thing), ("BadCode", None))
                self.assertEqual(refusal(check_moves, thing, thing, spare=thing), ("BadCode", None))
                self.assertEqual(refusal(check_moves, pairs, thing, spare=thing or 1), ("BadCode", None))
        # No TO twice; moves may have it so.
        self.assertIs(are_pairs(((1, 2), (3, 4), (1, 2))), False)
        self.assertEqual(refusal(fewest_moves, ((1, 2), (3, 4), (1, 1))), ("BadCode", 2))
        self.assertIs(are_moves(((1, 2), (3, 4), (1, 1))), True)
        self.assertIs(are_pairs(()), True)
        self.assertIs(are_moves(()), True)
        # Pairs ahead of moves, moves ahead of the spare, that ahead of what they do.
        self.assertEqual(refusal(check_moves, ((1, 2), None), (None,), spare=1), ("BadCode", 1))
        self.assertEqual(refusal(check_moves, ((1, 2),), ((0, 0), (0, 0), None), spare=1), ("BadCode", 2))
        self.assertEqual(refusal(check_moves, ((1, 2),), (), spare=1)[0], "OutOfPlace")
        self.assertEqual(refusal(check_moves, pairs=((1, 2),), moves=(), spare=3), ("BadPaper", 1))

    def test_what_are_no_words(self):
        for ask in (at_once, one_by_one):
            for thing in odd_things() + [65536, "1"]:
                if not isinstance(thing, tuple):
                    self.assertEqual(refusal(ask, (), thing), ("BadGiven", None))
                self.assertEqual(refusal(ask, (), (1, 2, thing, None)), ("BadGiven", 2))
            self.assertEqual(refusal(ask, (), (1,) * 65), ("BadGiven", None))
            self.assertIsNone(refusal(ask, (), (65535,) * 64))
            self.assertEqual(refusal(ask, ((0, 64),), (1,) * 65), ("BadCode", 0))


if __name__ == "__main__":
    unittest.main()
