import random
import unittest

from growing import grown
from making import BARE, LEAST, LOOPED, STEADY, STEADY_RANGES, TALL
from odd import odd_things
from test_costs import ODD_COUNTS, PROFILE, some_profile
from test_placements import EARLY, with_slot
from trying import Trial, refusal

from seaplace.cheapest import cheapest, pinned_cost, pinned_ranges
from seaplace.costs import cost_of, cost_parts, default_profile
from seaplace.graphs import names_of
from seaplace.placements import early_placement, is_placement, late_placement
from seaplace.ranges import ranges


def tall_counts(seed):
    """Counts for the twelve blocks by a seed."""
    chance = random.Random(seed)
    return {name: 100 + 7 * at + chance.randrange(5) for at, name in enumerate(names_of(TALL))}


def some_pins(chance, trial, rows):
    """Pins in the ranges of some nodes, at times such as some legal placement has."""
    placed = chance.choice(rows)
    nodes = sorted(chance.sample(trial.floats, min(len(trial.floats), chance.randint(1, 4))))
    if chance.random() < 0.4:
        return tuple((node, placed[node]) for node in nodes)
    return tuple((node, chance.choice(sorted({row[node] for row in rows}))) for node in nodes)


# By the default counts, each word held for 1: the pick costs least where its inputs are held already.
BEST = (
    (0, ("top", 0)), (3, ("head", 0)), (4, ("left", 0)), (5, ("foot", 0)), (6, ("done", 2)), (7, ("head", 0)),
    (8, ("foot", 0)),
)


class Cheapest(unittest.TestCase):
    def test_by_hand(self):
        # Where words are held for nothing, the word 1 is reckoned once at the entry rather than in the loop.
        self.assertEqual(cheapest(STEADY, hold=0), (
            (0, ("top", 0)), (3, ("head", 0)), (4, ("left", 0)), (5, ("foot", 0)), (6, ("done", 3)), (7, ("right", 0)),
            (8, ("top", 1)),
        ))
        self.assertEqual(cheapest(STEADY, hold=0, early=True), (
            (0, ("top", 0)), (3, ("head", 0)), (4, ("head", 0)), (5, ("head", 0)), (6, ("done", 2)), (7, ("head", 0)),
            (8, ("top", 0)),
        ))
        for early in (False, True):
            self.assertEqual(cheapest(STEADY, early=early), BEST)
        self.assertEqual(cost_parts(STEADY, BEST), (74, 79))
        self.assertEqual(cheapest(graph=STEADY, profile={**PROFILE, "foot": 0}), BEST)

    def test_all_counts_0(self):
        none = dict.fromkeys(PROFILE, 0)
        for hold in (0, 9):
            self.assertEqual(cheapest(STEADY, profile=none, hold=hold), late_placement(STEADY))
            self.assertEqual(cheapest(STEADY, profile=none, hold=hold, early=True), early_placement(STEADY))

    def test_early_is_true_alone(self):
        for thing in odd_things() + [1, "True", (True,)]:
            self.assertEqual(cheapest(STEADY, hold=0, early=thing), cheapest(STEADY, hold=0, early=thing is True))

    def test_nothing_floats(self):
        for graph in (BARE, LEAST):
            self.assertEqual(cheapest(graph), ())
            self.assertEqual(cheapest(graph, early=True, hold=9), ())
            self.assertEqual(pinned_ranges(graph), ())
            self.assertEqual(refusal(cheapest, graph, pins=((0, ("top", 0)),)), ("BadPlacement", 0))

    def test_tried(self):
        tried = 0
        for seed in range(150):
            graph = grown(seed, blocks=5, deeds=2, nodes=7, wide=seed % 2 == 0)
            trial = Trial(graph)
            if trial.many() > 1500:
                continue
            rows = trial.legal()
            chance = random.Random(seed)
            for _ in range(3):
                counts, hold = some_profile(chance, graph), chance.choice((0, 1, 2, 9))
                self.compare(graph, trial, rows, counts, hold, ())
            self.compare(graph, trial, rows, None, 1, ())
            tried += 1
        self.assertGreater(tried, 80)

    def compare(self, graph, trial, rows, counts, hold, pins):
        """Holds the cheapest placement with these pins against all placements that have them."""
        by_name = default_profile(graph) if counts is None else counts
        costs = [trial.price(placed, by_name, hold) for placed in rows]
        best = [placed for placed, cost in zip(rows, costs) if cost == min(costs)]
        for early, choose in ((True, trial.highest), (False, trial.lowest)):
            told = cheapest(graph, profile=counts, hold=hold, pins=pins, early=early)
            self.assertEqual(dict(told), choose(best))
            self.assertEqual(cost_of(graph, told, profile=counts, hold=hold), min(costs))

    def test_pins_tried(self):
        tried, refused = 0, 0
        for seed in range(150):
            graph = grown(seed, blocks=4, deeds=2, nodes=7, wide=seed % 2 == 0)
            trial = Trial(graph)
            if trial.many() > 1200 or not trial.floats:
                continue
            rows = trial.legal()
            chance = random.Random(seed)
            for _ in range(4):
                pins = some_pins(chance, trial, rows)
                left = [placed for placed in rows if all(placed[node] == slot for node, slot in pins)]
                told = refusal(pinned_ranges, graph, pins)
                self.assertEqual(refusal(cheapest, graph, pins=pins), told)
                self.assertEqual(told is None, bool(left))
                if not left:
                    self.assertEqual(told, ("Unsound", self.least_crossed(trial, graph, pins)))
                    refused += 1
                    continue
                highest, lowest = trial.highest(left), trial.lowest(left)
                self.assertEqual(pinned_ranges(graph, pins),
                                 tuple((node, highest[node], lowest[node]) for node in trial.floats))
                self.compare(graph, trial, left, some_profile(chance, graph), chance.choice((0, 1, 9)), pins)
                tried += 1
        self.assertGreater(tried, 100)
        self.assertGreater(refused, 8)

    def least_crossed(self, trial, graph, pins):
        """The least node whose HIGH is below its LOW, word by word."""
        told = {node: (high, low) for node, high, low in ranges(graph)}
        high, low = {}, {}
        for node in trial.order():
            found = [told[node][0]] + [high[one] for one in trial.inputs[node] if one in trial.floats]
            high[node] = max(found + [slot for one, slot in pins if one == node], key=trial.depth)
        for node in reversed(trial.order()):
            found = [told[node][1]] + [low[user] for user in trial.users[node]]
            low[node] = min(found + [slot for one, slot in pins if one == node], key=trial.depth)
        return min(node for node in trial.floats if trial.below(high[node], low[node]))

    def test_one_pin_tried(self):
        for seed in range(50):
            graph = grown(seed, blocks=4, deeds=2, nodes=6, wide=seed % 2 == 0)
            trial = Trial(graph)
            if trial.many() > 600:
                continue
            rows = trial.legal()
            chance = random.Random(seed)
            counts, hold = some_profile(chance, graph), chance.choice((0, 1, 9))
            costs = [trial.price(placed, counts, hold) for placed in rows]
            for node in trial.floats:
                for slot in trial.slots:
                    least = [cost for placed, cost in zip(rows, costs) if placed[node] == slot]
                    if least:
                        told = pinned_cost(graph, node, slot, profile=counts, hold=hold)
                        self.assertEqual(told, min(least))
                    else:
                        self.assertEqual(refusal(pinned_cost, graph, node, slot), ("BadPlacement", node))

    def test_pinned_by_hand(self):
        self.assertEqual(pinned_ranges(STEADY), STEADY_RANGES)
        self.assertEqual(pinned_ranges(STEADY, ()), STEADY_RANGES)
        told = pinned_ranges(graph=STEADY, pins=((5, ("head", 0)), (6, ("done", 2))))
        self.assertEqual(told[3:], (
            (5, ("head", 0), ("head", 0)), (6, ("done", 2), ("done", 2)), (7, ("head", 0), ("right", 0)),
            (8, ("top", 0), ("head", 0)),
        ))
        told = pinned_ranges(STEADY, ((8, ("foot", 0)),))
        self.assertEqual(told[3], (5, ("foot", 0), ("foot", 0)))
        pins = ((5, ("head", 0)), (8, ("foot", 0)))
        for ask in (pinned_ranges, lambda graph, pins: cheapest(graph, pins=pins)):
            self.assertEqual(refusal(ask, STEADY, pins), ("Unsound", 5))
        self.assertEqual(cheapest(STEADY, pins=((8, ("head", 0)),)), with_slot(BEST, 8, ("head", 0)))
        told = (
            (8, ("foot", 0), 153), (6, ("done", 2), 153), (6, ("done", 3), 154), (7, ("right", 0), 169),
            (8, ("top", 0), 163),
        )
        for node, slot, cost in told:
            self.assertEqual(pinned_cost(graph=STEADY, node=node, slot=slot, profile=None, hold=1), cost)
        self.assertEqual(pinned_cost(STEADY, 6, ("done", 2), hold=0), cost_of(STEADY, cheapest(STEADY, hold=0), hold=0))

    def test_all_pinned(self):
        for placement in (EARLY, BEST, late_placement(STEADY)):
            self.assertEqual(cheapest(STEADY, pins=placement), placement)
            self.assertEqual(cheapest(STEADY, pins=placement, early=True), placement)

    def test_tall(self):
        for seed in range(2):
            counts = tall_counts(seed)
            for hold in (0, 1, 9):
                low = cheapest(TALL, profile=counts, hold=hold)
                high = cheapest(TALL, profile=counts, hold=hold, early=True)
                cost = cost_of(TALL, low, profile=counts, hold=hold)
                self.assertEqual(cost_of(TALL, high, profile=counts, hold=hold), cost)
                self.assertIs(is_placement(TALL, low), True)
                for other in (early_placement(TALL), late_placement(TALL)):
                    self.assertLessEqual(cost, cost_of(TALL, other, profile=counts, hold=hold))
            pins = tuple((node, ("d", 3)) for node in range(5, 35))
            self.assertEqual(cheapest(TALL, pins=pins)[5:35], pins)
        self.assertEqual(pinned_cost(TALL, 20, ("d", 3), hold=0), 170)

    def test_no_pins(self):
        asks = (pinned_ranges, lambda graph, pins: cheapest(graph, pins=pins))
        for ask in asks:
            for thing in odd_things() + [[(8, ("top", 0))], (8, ("top", 0)), ((8, ("top", 0)), 1), ((8,),),
                                         ((8, ("top", 0), 1),), ([8, ("top", 0)],)]:
                if not isinstance(thing, tuple) or not all(isinstance(row, tuple) and len(row) == 2 for row in thing):
                    self.assertEqual(refusal(ask, STEADY, thing)[0], "OutOfPlace")
                    self.assertEqual(refusal(ask, LOOPED, thing), ("Unsound", 6))
                if not isinstance(thing, tuple) or len(thing) != 2:
                    self.assertEqual(refusal(ask, STEADY, ((1, None), thing))[0], "OutOfPlace")
                self.assertEqual(refusal(ask, STEADY, ((thing, ("top", 0)),)), ("BadPlacement", thing))
                self.assertEqual(refusal(ask, STEADY, ((8, thing),)), ("BadPlacement", 8))
                self.assertEqual(refusal(ask, STEADY, ((5, ("foot", 0)), (thing, ("top", 0)))), ("BadPlacement", thing))
            for node in (1, 2, 9, 10, -1, True):
                self.assertEqual(refusal(ask, STEADY, ((node, ("top", 0)),)), ("BadPlacement", node))
            good = ((5, ("foot", 0)), (8, ("top", 0)))
            for pins, node in (
                (good[::-1], 5), (good[:1] * 2, 5), (good + good[-1:], 8), (good + ((10, ("top", 0)),), 10),
                (((5, ("top", 0)), good[1]), 5), (((5, ("left", 0)), good[1]), 5), (((5, ("done", 0)), good[1]), 5),
                (((5, ("foot", 1)), good[1]), 5), (((0, ("top", 1)), None), None), (((5, ("done", 0)), (3, None)), 5),
                (((5, ("head", 0)), (8, ("foot", 0)), (9, ("foot", 0))), 9),
            ):
                told = ("BadPlacement", node) if node is not None else ("OutOfPlace",)
                self.assertEqual(refusal(ask, STEADY, pins), told)
        for thing in odd_things() + [1, 2, 9]:
            self.assertEqual(refusal(pinned_cost, STEADY, thing, ("top", 0), profile={}), ("BadPlacement", thing))
            self.assertEqual(refusal(pinned_cost, STEADY, 8, thing, profile={}), ("BadPlacement", 8))
            self.assertEqual(refusal(pinned_cost, LOOPED, thing, thing), ("Unsound", 6))
            self.assertEqual(refusal(pinned_cost, (), thing, thing), ("BadGraph", None, None))

    def test_no_profile_and_no_hold(self):
        asks = (
            lambda profile, hold=1: cheapest(STEADY, profile=profile, hold=hold),
            lambda profile, hold=1: pinned_cost(STEADY, 8, ("top", 0), profile=profile, hold=hold),
        )
        for ask in asks:
            self.assertEqual(refusal(ask, ()), ("BadProfile", None))
            self.assertEqual(refusal(ask, {}), ("BadProfile", "top"))
            self.assertEqual(refusal(ask, {**PROFILE, "more": 1}), ("BadProfile", None))
            for count in ODD_COUNTS:
                self.assertEqual(refusal(ask, {**PROFILE, "right": count}, None), ("BadProfile", "right"))
            for thing in odd_things() + [10]:
                self.assertEqual(refusal(ask, None, thing)[0], "OutOfPlace")
        self.assertEqual(refusal(cheapest, STEADY, profile=(), hold=10, pins=((5, ("head", 0)), (8, ("foot", 0)))),
                         ("Unsound", 5))
        self.assertEqual(refusal(cheapest, STEADY, profile=(), hold=10, pins=None)[0], "OutOfPlace")
        self.assertEqual(refusal(cheapest, STEADY, profile=(), hold=10, pins=((1, 1),)), ("BadPlacement", 1))
        self.assertEqual(refusal(cheapest, LOOPED, profile=(), hold=10, pins=None), ("Unsound", 6))
        self.assertEqual(refusal(cheapest, None, profile=(), hold=10, pins=None), ("BadGraph", None, None))


if __name__ == "__main__":
    unittest.main()
