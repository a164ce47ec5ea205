import random
import unittest

from growing import grown
from making import BARE, LEAST, LOOPED, NAMES, STEADY, TALL
from odd import odd_things
from test_placements import EARLY, LATE, with_slot
from trying import COSTS as BY_HAND
from trying import Trial, refusal

from seaplace.costs import COSTS, cost_of, cost_parts, default_profile, held_slots
from seaplace.graphs import names_of
from seaplace.loops import depth_of
from seaplace.placements import early_placement, late_placement, legal_placements

PROFILE = {"top": 1, "head": 8, "left": 8, "right": 8, "foot": 8, "done": 1}
ODD_COUNTS = [True, -1, 1000, None, "1", (1,), [1], 10 ** 5000]


def some_profile(chance, graph):
    """Counts for the blocks of a graph."""
    return {name: chance.choice((0, 1, 2, 8, 999, chance.randrange(1000))) for name in names_of(graph)}


def nested(many):
    """Blocks in a row, each of them the head of a loop within that of the one ahead."""
    heads, lasts = NAMES[1:many + 1], "klmno"[:many]
    blocks = [("top", (), ("goto", heads[0]))]
    blocks += [(head, (), ("goto", after)) for head, after in zip(heads, (*heads[1:], lasts[0]))]
    blocks += [(last, (), ("if", 0, head, after))
               for last, head, after in zip(lasts, reversed(heads), (*lasts[1:], "z"))]
    blocks.append(("z", (), ("return", 0)))
    return (tuple(blocks), (("given", 0),))


class Costs(unittest.TestCase):
    def test_table(self):
        self.assertEqual(COSTS, BY_HAND)
        self.assertIs(type(COSTS), dict)

    def test_default_profile(self):
        self.assertEqual(list(default_profile(STEADY).items()), list(PROFILE.items()))
        self.assertEqual(default_profile(BARE), {"top": 1, "side": 1, "loop": 8, "last": 1})
        self.assertEqual(default_profile(LEAST), {"only": 1, "next": 8})
        graph = nested(5)
        told = default_profile(graph)
        self.assertEqual([told[name] for name in NAMES[:6]], [1, 8, 64, 512, 999, 999])
        self.assertEqual([depth_of(graph, name) for name in NAMES[:6]], [0, 1, 2, 3, 4, 5])
        for seed in range(80):
            graph = grown(seed, blocks=9, deeds=1, nodes=4, wide=seed % 2 == 0)
            told = default_profile(graph)
            self.assertEqual(list(told), list(names_of(graph)))
            for name in names_of(graph):
                self.assertEqual(told[name], min(8 ** depth_of(graph, name), 999))

    def test_held_by_hand(self):
        self.assertEqual(held_slots(STEADY, EARLY, 0), [("top", 1)])
        self.assertEqual(held_slots(STEADY, EARLY, 1), [
            ("top", 1), ("head", 0), ("foot", 0), ("done", 0), ("done", 1), ("done", 2),
        ])
        self.assertEqual(held_slots(STEADY, EARLY, 4), [("left", 0), ("left", 1)])
        self.assertEqual(held_slots(STEADY, LATE, 4), [("left", 1)])
        self.assertEqual(held_slots(STEADY, LATE, 6), [])
        self.assertEqual(held_slots(graph=STEADY, placement=LATE, node=8), [])
        self.assertEqual(held_slots(BARE, (), 1), [("loop", 1), ("last", 0)])
        self.assertEqual(held_slots(BARE, (), 0), [("top", 1), ("side", 0)])

    def test_held_by_blocks(self):
        # The block that dominates the other one is the later one of the two.
        graph = ((("a", (), ("goto", "c")), ("b", (("out", 0),), ("return", 0)), ("c", (), ("goto", "b"))),
                 (("given", 0),))
        self.assertEqual(held_slots(graph, (), 0), [("b", 0), ("b", 1), ("c", 0)])

    def test_by_hand(self):
        self.assertEqual(cost_parts(STEADY, EARLY), (67, 104))
        self.assertEqual(cost_parts(STEADY, EARLY, hold=9), (67, 936))
        self.assertEqual(cost_parts(STEADY, EARLY, hold=0), (67, 0))
        self.assertEqual(cost_of(STEADY, EARLY), 171)
        self.assertEqual(cost_of(STEADY, EARLY, profile=None, hold=2), 67 + 208)
        self.assertEqual(cost_of(STEADY, EARLY, profile=dict.fromkeys(PROFILE, 0)), 0)
        self.assertEqual(cost_of(STEADY, EARLY, profile=dict.fromkeys(PROFILE, 1), hold=0), 1 + 1 + 4 + 1 + 9 + 1 + 1)
        self.assertEqual(cost_parts(STEADY, EARLY, profile=dict.fromkeys(PROFILE, 999), hold=9), (
            999 * 18, 9 * 999 * (1 + 6 + 9 + 4 + 2 + 1 + 1 + 1 + 2),
        ))
        self.assertEqual(cost_parts(graph=BARE, placement=()), (0, 1 + 1 + 8 + 1))
        self.assertEqual(cost_of(graph=LEAST, placement=()), 0)

    def test_order_of_the_profile_is_nothing(self):
        turned = dict(reversed(list(PROFILE.items())))
        self.assertEqual(cost_of(STEADY, LATE, profile=turned), cost_of(STEADY, LATE))

    def test_by_the_words_of_the_document(self):
        for seed in range(60):
            graph = grown(seed, blocks=5, deeds=3, nodes=10, wide=seed % 2 == 0)
            trial = Trial(graph)
            chance = random.Random(seed)
            counts, hold = some_profile(chance, graph), chance.randrange(10)
            for placement in (early_placement(graph), late_placement(graph)):
                placed = dict(placement)
                for node in trial.live:
                    self.assertEqual(held_slots(graph, placement, node), trial.held(placed, node))
                told = cost_parts(graph, placement, profile=counts, hold=hold)
                self.assertEqual(told, trial.parts(placed, counts, hold))
                self.assertEqual(cost_of(graph, placement, profile=counts, hold=hold), sum(told))

    def test_highest_and_lowest_of_two(self):
        for seed in range(40):
            graph = grown(seed, blocks=4, deeds=3, nodes=7, wide=seed % 2 == 0)
            trial = Trial(graph)
            if trial.many() > 1000:
                continue
            chance = random.Random(seed)
            rows = legal_placements(graph)
            for _ in range(6):
                one, other = dict(chance.choice(rows)), dict(chance.choice(rows))
                high, low = trial.highest([one, other]), trial.lowest([one, other])
                counts, hold = some_profile(chance, graph), chance.randrange(10)
                both = [cost_of(graph, tuple(sorted(placed.items())), profile=counts, hold=hold)
                        for placed in (one, other, high, low)]
                self.assertLessEqual(both[2] + both[3], both[0] + both[1])

    def test_tall(self):
        self.assertEqual(cost_parts(TALL, early_placement(TALL), hold=0), (1 + 13 * 1 + 13 * 3 + 13 * 9, 0))
        self.assertEqual(cost_parts(TALL, late_placement(TALL), hold=0), (170, 0))
        self.assertEqual(len(held_slots(TALL, early_placement(TALL), 39)), 71)

    def test_no_profile(self):
        asks = [
            lambda profile, hold=1: cost_of(STEADY, EARLY, profile=profile, hold=hold),
            lambda profile, hold=1: cost_parts(STEADY, EARLY, profile=profile, hold=hold),
        ]
        for ask in asks:
            for thing in odd_things()[1:]:
                if not isinstance(thing, dict):
                    self.assertEqual(refusal(ask, thing), ("BadProfile", None))
                    self.assertEqual(refusal(ask, thing, None), ("BadProfile", None))
            self.assertEqual(refusal(ask, {}), ("BadProfile", "top"))
            for name in PROFILE:
                left = {one: PROFILE[one] for one in PROFILE if one != name}
                self.assertEqual(refusal(ask, left), ("BadProfile", name))
                self.assertEqual(refusal(ask, {**left, "more": 1}), ("BadProfile", name))
                for count in ODD_COUNTS:
                    self.assertEqual(refusal(ask, {**PROFILE, name: count}), ("BadProfile", name))
                    wrong = {**PROFILE, name: count, "z": 1, "done": count}
                    self.assertEqual(refusal(ask, wrong), ("BadProfile", name))
            for more in ("more", 1, None, ("top",), True):
                self.assertEqual(refusal(ask, {**PROFILE, more: 1}), ("BadProfile", None))
                self.assertEqual(refusal(ask, {**PROFILE, more: 1, "foot": -1}), ("BadProfile", "foot"))

    def test_no_hold(self):
        for thing in odd_things() + [10, "1"]:
            for ask in (cost_of, cost_parts):
                self.assertEqual(refusal(ask, STEADY, EARLY, hold=thing)[0], "OutOfPlace")
                self.assertEqual(refusal(ask, STEADY, EARLY, profile={}, hold=thing), ("BadProfile", "top"))
                self.assertEqual(refusal(ask, STEADY, None, profile={}, hold=thing), ("BadPlacement", None))
                self.assertEqual(refusal(ask, LOOPED, None, profile={}, hold=thing), ("Unsound", 6))
                self.assertEqual(refusal(ask, thing, thing, profile=thing, hold=thing), ("BadGraph", *refusal(
                    default_profile, thing)[1:]))

    def test_no_placement_and_no_node(self):
        wrong = with_slot(EARLY, 4, ("left", 1))
        for ask in (cost_of, cost_parts):
            self.assertEqual(refusal(ask, STEADY, wrong), ("BadPlacement", 4))
            self.assertEqual(refusal(ask, STEADY, EARLY[1:]), ("BadPlacement", None))
        self.assertEqual(refusal(held_slots, STEADY, wrong, None), ("BadPlacement", 4))
        self.assertEqual(refusal(held_slots, STEADY, (), None), ("BadPlacement", None))
        self.assertEqual(refusal(held_slots, LOOPED, (), None), ("Unsound", 6))
        self.assertEqual(refusal(default_profile, LOOPED), ("Unsound", 6))
        for thing in odd_things() + [9, 10]:
            self.assertEqual(refusal(held_slots, STEADY, EARLY, thing), ("NoNode", thing))


if __name__ == "__main__":
    unittest.main()
