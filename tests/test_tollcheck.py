import random
import unittest

from growing import grown
from making import BARE, LEAST, LOOPED, STEADY, TALL
from odd import odd_things
from test_cheapest import BEST, tall_counts
from test_costs import ODD_COUNTS, PROFILE, some_profile
from test_placements import EARLY, with_slot
from trying import COSTS, Trial, refusal

from seaplace.cheapest import cheapest
from seaplace.costs import cost_of, default_profile
from seaplace.placements import early_placement, late_placement
from seaplace.ranges import ranges
from seaplace.tollcheck import check_tolls, toll_bound, toll_paper


class Tolls:
    """What the document says of tolls, word by word."""

    def __init__(self, graph, counts, hold):
        self.trial = Trial(graph)
        told = {node: (high, low) for node, high, low in ranges(graph)}
        self.early = {node: told[node][0] if node in told else self.trial.stand({}, node) for node in self.trial.live}
        self.late = {node: told[node][1] for node in self.trial.floats}
        self.counts = counts
        self.price = {slot: counts[slot[0]] * hold for slot in self.trial.slots}
        self.under = {
            node: [slot for slot in self.trial.slots if self.trial.below(slot, self.early[node])]
            for node in self.trial.live
        }
        self.sure = {node: self.sure_of(node) for node in self.trial.live}

    def sure_of(self, node):
        """The slots that are sure of a live node."""
        uses = self.trial.fixed[node] + [self.early[user] for user in self.trial.users[node]]
        return [slot for slot in self.under[node] if any(self.trial.over[slot, use] for use in uses)]

    def stands(self, row):
        """Whether a row of the right form can stand by itself."""
        node, user, slot, toll = row
        if user not in self.trial.floats or node not in self.trial.inputs[user] or toll == 0 or abs(toll) > 99999999:
            return False
        if slot not in self.under[node] or not self.trial.over[slot, self.late[user]]:
            return False
        if toll < 0:
            return slot not in self.sure[node]
        return node in self.trial.floats and self.trial.over[slot, self.late[node]]

    def first_bad(self, rows):
        """The number of the first row that can't stand, or None."""
        for at, row in enumerate(rows):
            if not self.stands(row):
                return at
            key = (row[0], row[1], self.trial.depth(row[2]))
            if at and key <= (rows[at - 1][0], rows[at - 1][1], self.trial.depth(rows[at - 1][2])):
                return at
            same = [one for one in rows[:at + 1] if one[0] == row[0] and one[2] == row[2] and one[3] < 0]
            if -sum(one[3] for one in same) > self.price[row[2]]:
                return at
        return None

    def show(self, rows):
        """What rows show."""
        total = sum(self.price[slot] for node in self.trial.live for slot in self.sure[node])
        for node in self.trial.floats:
            found = []
            for slot in self.trial.slots:
                if not self.trial.over[self.early[node], slot] or not self.trial.over[slot, self.late[node]]:
                    continue
                cost = COSTS[self.trial.kinds[node]] * self.counts[slot[0]]
                cost -= sum(self.price[one] for one in self.sure[node] if self.trial.over[one, slot])
                cost += sum(row[3] for row in rows if row[0] == node and self.trial.over[row[2], slot])
                cost -= sum(row[3] for row in rows if row[1] == node and self.trial.over[row[2], slot])
                found.append(cost)
            total += min(found)
        return total

    def some_rows(self, chance):
        """Rows, most of which can stand."""
        found = []
        for user in self.trial.floats:
            for node in sorted(set(self.trial.inputs[user])):
                for slot in self.under[node]:
                    if self.trial.over[slot, self.late[user]] and chance.random() < 0.7:
                        signs = [-1] if slot not in self.sure[node] else []
                        if node in self.trial.floats and self.trial.over[slot, self.late[node]]:
                            signs.append(1)
                        if signs:
                            toll = chance.choice(signs) * chance.randint(1, max(1, self.price[slot]))
                            found.append((node, user, slot, toll))
        return sorted(found, key=lambda row: (row[0], row[1], self.trial.depth(row[2])))


def changed(chance, tolls, rows):
    """Rows of which one is changed, left out, twice, exchanged, or of another node."""
    rows = list(rows)
    if not rows:
        return rows
    at = chance.randrange(len(rows))
    node, user, slot, toll = rows[at]
    kind = chance.randrange(8)
    if kind == 0:
        rows[at] = (node, user, slot, chance.choice((-toll, toll * 1000, 10 ** 8, -10 ** 8, 99999999, 0)))
    elif kind == 1:
        rows[at] = (node, user, chance.choice(tolls.trial.slots), toll)
    elif kind == 2:
        rows[at] = (chance.choice(tolls.trial.live), user, slot, toll)
    elif kind == 3:
        rows[at] = (node, chance.choice(tolls.trial.live), slot, toll)
    elif kind == 4:
        rows.insert(at, rows[at])
    elif kind == 5:
        other = chance.randrange(len(rows))
        rows[at], rows[other] = rows[other], rows[at]
    elif kind == 6:
        rows.pop(at)
    else:
        rows.insert(chance.randrange(len(rows)), rows.pop(at))
    return rows


class TollPapers(unittest.TestCase):
    def test_made_ones_are_right(self):
        for seed in range(100):
            graph = grown(seed, blocks=6, deeds=3, nodes=14, wide=seed % 2 == 0)
            chance = random.Random(seed)
            for counts, hold in ((None, 1), (some_profile(chance, graph), chance.randrange(10))):
                paper = toll_paper(graph, profile=counts, hold=hold)
                self.assertIsInstance(paper, tuple)
                cost = cost_of(graph, paper[0], profile=counts, hold=hold)
                self.assertEqual(cost, cost_of(graph, cheapest(graph, profile=counts, hold=hold), profile=counts,
                                               hold=hold))
                self.assertEqual(check_tolls(graph, paper, profile=counts, hold=hold), cost)
                self.assertEqual(toll_bound(graph, paper[1], profile=counts, hold=hold), cost)
                tolls = Tolls(graph, counts or default_profile(graph), hold)
                self.assertIsNone(tolls.first_bad(paper[1]))
                self.assertEqual(tolls.show(paper[1]), cost)

    def test_never_more_than_a_placement_costs(self):
        good, bad = 0, 0
        for seed in range(120):
            graph = grown(seed, blocks=4, deeds=2, nodes=7, wide=seed % 2 == 0)
            chance = random.Random(seed)
            counts, hold = some_profile(chance, graph), chance.choice((1, 2, 9))
            tolls = Tolls(graph, counts, hold)
            if tolls.trial.many() > 800:
                continue
            least = min(tolls.trial.price(placed, counts, hold) for placed in tolls.trial.legal())
            made = toll_paper(graph, profile=counts, hold=hold)
            for turn in range(6):
                rows = tolls.some_rows(chance) if turn % 2 else list(made[1])
                rows = changed(chance, tolls, rows) if turn > 1 else rows
                at = tolls.first_bad(rows)
                if at is not None:
                    told = ("BadPaper", at)
                    self.assertEqual(refusal(toll_bound, graph, tuple(rows), profile=counts, hold=hold), told)
                    self.assertEqual(refusal(check_tolls, graph, (made[0], tuple(rows)), profile=counts, hold=hold),
                                     told)
                    bad += 1
                    continue
                shown = toll_bound(graph, tuple(rows), profile=counts, hold=hold)
                self.assertEqual(shown, tolls.show(rows))
                self.assertLessEqual(shown, least)
                told = refusal(check_tolls, graph, (made[0], tuple(rows)), profile=counts, hold=hold)
                self.assertEqual(told, None if shown == least else ("BadPaper", len(rows)))
                good += 1
        self.assertGreater(good, 200)
        self.assertGreater(bad, 50)

    def test_by_hand(self):
        # One block: the word 0 is put out in its second slot, and its user in the third.
        graph = ((("a", (("out", 2), ("out", 0), ("out", 1)), ("return", 2)),),
                 (("word", 5), ("add", 0, 2), ("given", 0)))
        counts = {"a": 10}
        self.assertEqual(ranges(graph), ((0, ("a", 0), ("a", 1)), (1, ("a", 0), ("a", 2))))
        # Sure: of 0 the slot 1; of 1 the slots 1 and 2; of the given 1, 2 and 3.
        self.assertEqual(toll_bound(graph, (), profile=counts, hold=2), 20 * 6 + (10 - 20) + (10 - 40))
        rows = ((0, 1, ("a", 1), 5), (0, 1, ("a", 2), -20))
        self.assertEqual(toll_bound(graph=graph, tolls=rows, profile=counts, hold=2),
                         120 + min(10, 10 - 20 + 5) + min(10, 10 - 25, 10 - 45 + 20))
        paper = toll_paper(graph, profile=counts, hold=2)
        self.assertEqual(paper[0], ((0, ("a", 1)), (1, ("a", 2))))
        self.assertEqual(check_tolls(graph=graph, paper=paper, profile=counts, hold=2), 10 + 10 + 20 * 3 + 20)
        for at, row in (
            (1, (0, 1, ("a", 2), -21)), (1, (0, 1, ("a", 2), 1)), (1, (0, 1, ("a", 3), -1)), (1, (0, 1, ("a", 1), 6)),
            (1, (0, 1, ("a", 0), 5)), (1, (0, 0, ("a", 2), -1)), (1, (1, 0, ("a", 2), -1)), (1, (2, 1, ("a", 2), -1)),
            (1, (0, 2, ("a", 2), -1)), (1, (0, 1, ("a", 2), 0)), (1, (2, 1, ("a", 1), 1)),
        ):
            self.assertEqual(refusal(toll_bound, graph, (rows[0], row), profile=counts, hold=2), ("BadPaper", at))
        self.assertEqual(refusal(toll_bound, graph, (rows[1], rows[0]), profile=counts, hold=2), ("BadPaper", 1))
        self.assertEqual(refusal(toll_bound, graph, rows, profile=counts, hold=0), ("BadPaper", 1))
        self.assertEqual(refusal(toll_bound, graph, ((0, 1, ("a", 1), -1),), profile=counts), ("BadPaper", 0))
        for toll in (99999999, -1):
            told = refusal(toll_bound, graph, ((0, 1, ("a", 1), toll),), profile=counts, hold=2)
            self.assertEqual(told, None if toll > 0 else ("BadPaper", 0))
        wrong = ((0, 1, ("a", 1), 10 ** 8),)
        self.assertEqual(refusal(toll_bound, graph, wrong, profile=counts, hold=2), ("BadPaper", 0))

    def test_tolls_below_0_together(self):
        # Two users of one word: what they pay for a slot comes to its price at most.
        graph = ((("a", (("out", 3),) * 3, ("goto", "b")), ("b", (("out", 1), ("out", 2)), ("return", 3))),
                 (("word", 5), ("add", 0, 0), ("sub", 0, 0), ("given", 0)))
        counts = {"a": 3, "b": 7}
        rows = tuple((0, user, ("a", 2), toll) for user, toll in ((1, -2), (2, -1)))
        self.assertIsNone(refusal(toll_bound, graph, rows, profile=counts))
        rows = tuple((0, user, ("a", 2), -2) for user in (1, 2))
        self.assertEqual(refusal(toll_bound, graph, rows, profile=counts), ("BadPaper", 1))
        self.assertIsNone(refusal(toll_bound, graph, rows, profile=counts, hold=2))
        rows = ((0, 1, ("a", 2), -2), (0, 2, ("a", 2), 8))
        self.assertIsNone(refusal(toll_bound, graph, rows, profile=counts))
        rows = ((0, 1, ("a", 1), -3), (0, 1, ("a", 2), -3), (0, 2, ("a", 3), -3), (0, 2, ("b", 0), -7))
        self.assertIsNone(refusal(toll_bound, graph, rows, profile=counts))
        rows = rows[:3] + ((0, 2, ("b", 0), -8),)
        self.assertEqual(refusal(toll_bound, graph, rows, profile=counts), ("BadPaper", 3))

    def test_nothing_floats(self):
        self.assertEqual(toll_paper(BARE), ((), ()))
        self.assertEqual(toll_bound(BARE, ()), 11)
        self.assertEqual(check_tolls(BARE, ((), ())), 11)
        self.assertEqual(check_tolls(LEAST, ((), ()), hold=9), 0)
        self.assertEqual(refusal(toll_bound, BARE, ((0, 1, ("top", 1), -1),)), ("BadPaper", 0))

    def test_tall(self):
        for hold in (0, 1, 9):
            counts = tall_counts(hold)
            paper = toll_paper(TALL, profile=counts, hold=hold)
            self.assertEqual(check_tolls(TALL, paper, profile=counts, hold=hold),
                             cost_of(TALL, cheapest(TALL, profile=counts, hold=hold), profile=counts, hold=hold))
        counts = dict.fromkeys(counts, 999)
        paper = toll_paper(TALL, profile=counts, hold=9)
        cost = cost_of(TALL, paper[0], profile=counts, hold=9)
        self.assertEqual(check_tolls(TALL, paper, profile=counts, hold=9), cost)

    def test_another_placement(self):
        rows = toll_paper(STEADY)[1]
        self.assertEqual(check_tolls(STEADY, (BEST, rows)), 153)
        for placement in (early_placement(STEADY), late_placement(STEADY)):
            self.assertEqual(refusal(check_tolls, STEADY, (placement, rows)), ("BadPaper", len(rows)))
        self.assertEqual(refusal(check_tolls, STEADY, (BEST, ())), ("BadPaper", 0))
        # Where words are held for nothing several cost the same.
        rows = toll_paper(STEADY, hold=0)[1]
        for early in (True, False):
            self.assertEqual(check_tolls(STEADY, (cheapest(STEADY, hold=0, early=early), rows), hold=0), 67)

    def test_rows_of_another_form(self):
        rows = toll_paper(STEADY)[1]
        self.assertGreater(len(rows), 1)
        for thing in odd_things():
            if not isinstance(thing, tuple):
                self.assertEqual(refusal(toll_bound, STEADY, thing), ("BadPaper", None))
                self.assertEqual(refusal(check_tolls, STEADY, (BEST, thing)), ("BadPaper", None))
            for at, row in enumerate(rows):
                wrong = [thing, list(row), row[:3], (*row, thing)]
                wrong += [(*row[:part], thing, *row[part + 1:]) for part in range(4) if thing != -1]
                wrong += [(*row[:2], (thing, row[2][1]), row[3]), (*row[:2], (row[2][0], thing), row[3])]
                for one in wrong:
                    told = refusal(toll_bound, STEADY, rows[:at] + (one,) + rows[at + 1:])
                    self.assertEqual(told, ("BadPaper", at), one)
        for row in ((True, 3, ("foot", 0), -1), (2, 5, ("foot", 0), True), (2, 5, ["foot", 0], -1),
                    (9, 9, ("top", 0), 1), (10, 5, ("foot", 0), 1), (2, 10, ("foot", 0), 1), (11, 11, ("foot", 0), 1)):
            self.assertEqual(refusal(toll_bound, STEADY, (row,)), ("BadPaper", 0))

    def test_the_first_refusal(self):
        wrong = with_slot(EARLY, 6, ("done", 1))
        for thing in odd_things() + [[BEST, ()], (BEST,), (BEST, (), ())]:
            if not isinstance(thing, tuple) or len(thing) != 2:
                self.assertEqual(refusal(check_tolls, STEADY, thing, profile=(), hold=10), ("BadPaper", None))
                self.assertEqual(refusal(check_tolls, LOOPED, thing, profile=(), hold=10), ("Unsound", 6))
                self.assertEqual(refusal(check_tolls, None, thing, profile=(), hold=10), ("BadGraph", None, None))
            self.assertEqual(refusal(check_tolls, STEADY, (thing, None), profile=(), hold=10), ("BadPlacement", None))
            self.assertEqual(refusal(check_tolls, STEADY, (wrong, thing), profile=(), hold=10), ("BadPlacement", 6))
            self.assertEqual(refusal(check_tolls, STEADY, (BEST, thing), profile=(), hold=10), ("BadProfile", None))
            self.assertEqual(refusal(check_tolls, STEADY, (BEST, thing), hold=10)[0], "OutOfPlace")
            self.assertEqual(refusal(toll_bound, STEADY, thing, profile={}, hold=10), ("BadProfile", "top"))
            self.assertEqual(refusal(toll_bound, STEADY, thing, hold=10)[0], "OutOfPlace")
            self.assertEqual(refusal(toll_bound, LOOPED, thing, profile={}), ("Unsound", 6))
            self.assertEqual(refusal(toll_paper, STEADY, hold=thing)[0], "OutOfPlace")
        for count in ODD_COUNTS:
            told = refusal(toll_paper, STEADY, profile={**PROFILE, "left": count}, hold=10)
            self.assertEqual(told, ("BadProfile", "left"))
        self.assertEqual(refusal(toll_paper, LOOPED, profile=(), hold=10), ("Unsound", 6))


if __name__ == "__main__":
    unittest.main()
