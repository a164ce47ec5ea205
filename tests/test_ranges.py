import unittest

from growing import grown
from making import BARE, LEAST, LOOPED, STEADY, STEADY_RANGES, TALL, diamond, random_graph
from odd import odd_things
from trying import Trial, refusal

from seaplace.graphs import floating_nodes
from seaplace.guards import is_guarded
from seaplace.ranges import earliest, is_sound, latest, need_sound, order_of, ranges
from seaplace.versions import current

# A load whose version is current in a part of the chain of its use alone, and a div whose divisor is guarded there.
PARTS = (
    (
        ("top", (("store", 0, 0, 0), ("out", 0)), ("goto", "mid")),
        ("mid", (("store", 0, 1, 1), ("check", 1), ("out", 0)), ("if", 1, "last", "mid")),
        ("last", (("out", 2), ("out", 3), ("out", 4)), ("return", 5)),
    ),
    (
        ("given", 0), ("given", 1), ("load", 0, 0, ("mid", 1)), ("div", 0, 1), ("load", 0, 0, ("top", 1)),
        ("load", 0, 3, ("mid", 1)),
    ),
)
# The same without the load of a version that is gone at its use.
HELD = (PARTS[0][:2] + (("last", (("out", 2), ("out", 3), ("out", 3)), ("return", 5)),), PARTS[1])


def with_node(graph, node, thing):
    """A graph with another node in the place of one."""
    nodes = list(graph[1])
    nodes[node] = thing
    return (graph[0], tuple(nodes))


class Ranges(unittest.TestCase):
    def test_by_hand(self):
        self.assertEqual(ranges(STEADY), STEADY_RANGES)
        for node, high, low in STEADY_RANGES:
            self.assertEqual(earliest(STEADY, node), high)
            self.assertEqual(latest(STEADY, node), low)
        self.assertIs(is_sound(STEADY), True)
        self.assertIsNone(need_sound(STEADY))

    def test_a_part_of_the_chain(self):
        self.assertEqual(ranges(HELD), (
            (2, ("mid", 1), ("last", 0)), (3, ("mid", 2), ("last", 1)), (5, ("mid", 2), ("last", 3)),
        ))
        # A version that is gone at a use ends ahead of it: the head of the loop makes another one.
        self.assertEqual(latest(PARTS, 4), ("top", 2))
        self.assertEqual(earliest(PARTS, 4), ("top", 1))
        self.assertIs(is_sound(PARTS), True)

    def test_order(self):
        self.assertEqual(order_of(STEADY), (0, 3, 4, 6, 7, 8, 5))
        self.assertEqual(order_of(BARE), ())
        self.assertEqual(order_of(LEAST), ())
        self.assertEqual(order_of(TALL), tuple(range(40)))
        turned = ((("a", (("out", 0), ("out", 4)), ("return", 2)),),
                  (("add", 3, 3), ("word", 1), ("word", 2), ("sub", 2, 4), ("word", 5)))
        self.assertEqual(order_of(turned), (2, 4, 3, 0))

    def test_nothing_floats(self):
        for graph in (BARE, LEAST, diamond()):
            self.assertEqual(ranges(graph), ())
            self.assertEqual(order_of(graph), ())
            self.assertIs(is_sound(graph), True)

    def test_one_slot_alone(self):
        graph = ((("a", (("out", 0), ("out", 0)), ("return", 0)),), (("word", 1),))
        self.assertEqual(ranges(graph), ((0, ("a", 0), ("a", 0)),))

    def test_a_live_phi_that_does_not_fit(self):
        # Each node has its slots, but the loop's phi is put out where its block isn't gone through.
        graph = ((*BARE[0][:1], ("side", (("out", 1),), ("goto", "loop")), *BARE[0][2:]), BARE[1])
        self.assertEqual(ranges(graph), ())
        self.assertIs(is_sound(graph), False)
        self.assertEqual(refusal(need_sound, graph), ("Unsound", 1))

    def test_a_phi_that_is_not_live_need_not_fit(self):
        graph = (BARE[0], BARE[1] + (("phi", "side", (2,)), ("add", 2, 2), ("load", 1, 2, ("loop", 1))))
        self.assertIs(is_sound(graph), True)
        self.assertEqual(ranges(graph), ())

    def test_unsound_by_an_input(self):
        # Of a node below the phi's block that is asked for ahead of it neither is None but the earliest.
        graph = with_node(STEADY, 0, ("add", 2, 2))
        self.assertIs(is_sound(graph), False)
        self.assertEqual(refusal(need_sound, graph), ("Unsound", 0))
        self.assertIsNone(earliest(graph, 0))
        self.assertEqual(latest(graph, 0), ("top", 0))

    def test_a_version_that_is_none(self):
        for version in (("left", 1), ("right", 0), ("done", 0), ("left", 2)):
            graph = with_node(STEADY, 4, ("load", 0, 2, version))
            self.assertEqual((earliest(graph, 4), latest(graph, 4)), (None, None))
            self.assertEqual(refusal(need_sound, graph), ("Unsound", 4))
        # One that is current ahead of its input alone has a latest slot.
        graph = with_node(STEADY, 4, ("load", 0, 2, ("top", 0)))
        self.assertEqual((earliest(graph, 4), latest(graph, 4)), (None, ("top", 0)))

    def test_none_of_what_is_made_of_none(self):
        # Of inputs of a node without a latest slot the latest one is None, of its users the earliest one.
        graph = with_node(STEADY, 4, ("load", 0, 3, ("right", 0)))
        self.assertIsNone(latest(graph, 3))
        self.assertIsNone(earliest(graph, 3))
        self.assertEqual(refusal(need_sound, graph), ("Unsound", 3))
        graph = with_node(STEADY, 7, ("pick", 4, 2, 1))
        self.assertEqual(latest(graph, 4), ("head", 0))
        graph = with_node(with_node(STEADY, 0, ("add", 8, 2)), 5, ("add", 0, 8))
        self.assertEqual([earliest(graph, node) for node in (0, 5, 8)], [None, None, ("top", 0)])
        self.assertEqual([latest(graph, node) for node in (0, 5, 8)], [("top", 0), ("foot", 0), ("top", 0)])

    def test_unguarded(self):
        self.assertIs(is_sound(LOOPED), False)
        self.assertEqual(refusal(need_sound, LOOPED), ("Unsound", 6))
        self.assertIsNone(earliest(LOOPED, 6))
        self.assertEqual(latest(LOOPED, 6), ("right", 0))
        graph = with_node(STEADY, 6, ("rest", 1, 0))
        self.assertEqual(refusal(need_sound, graph), ("Unsound", 6))
        graph = with_node(STEADY, 6, ("rest", 1, 8))
        self.assertEqual(ranges(graph)[4], (6, ("top", 0), ("done", 3)))

    def test_the_least_is_told(self):
        graph = with_node(with_node(STEADY, 6, ("rest", 1, 2)), 4, ("load", 1, 2, ("done", 0)))
        self.assertEqual(refusal(need_sound, graph), ("Unsound", 4))
        blocks = (*BARE[0][:1], ("side", (("out", 1), ("out", 2)), ("goto", "loop")), *BARE[0][2:])
        self.assertEqual(refusal(need_sound, (blocks, BARE[1] + (("div", 0, 0),))), ("Unsound", 1))
        self.assertEqual(refusal(need_sound, (blocks, (BARE[1][0], ("div", 0, 0), ("phi", "loop", (0, 0, 1))))),
                         ("Unsound", 1))

    def test_tall(self):
        told = ranges(TALL)
        self.assertEqual(told[0], (0, ("top", 0), ("top", 0)))
        for node, high, low in told[1:]:
            self.assertEqual((high, low), (("top", 0), ("z", 5)))

    def test_tried(self):
        tried = 0
        for seed in range(160):
            graph = grown(seed, blocks=4, deeds=2, nodes=5, wide=seed % 2 == 0)
            trial = Trial(graph)
            self.assertEqual(order_of(graph), trial.order())
            self.assertIs(is_sound(graph), True)
            if trial.many() > 4000:
                continue
            rows = trial.legal()
            highest, lowest = trial.highest(rows), trial.lowest(rows)
            self.assertEqual(ranges(graph), tuple((node, highest[node], lowest[node]) for node in trial.floats))
            for node in trial.floats:
                chain = {slot for slot in trial.slots if trial.over[highest[node], slot]
                         and trial.over[slot, lowest[node]]}
                self.assertEqual({placed[node] for placed in rows}, chain)
            tried += 1
        self.assertGreater(tried, 80)

    def test_sound_where_a_placement_is_legal(self):
        sound = 0
        for seed in range(300):
            graph = random_graph(seed, 4)
            trial = Trial(graph)
            if trial.many() > 3000:
                continue
            rows = trial.legal()
            self.assertIs(is_sound(graph), bool(rows))
            self.assertEqual(is_sound(graph), refusal(need_sound, graph) is None)
            self.assertEqual(order_of(graph), trial.order())
            sound += bool(rows)
        self.assertGreater(sound, 20)

    def test_by_the_words_of_the_document(self):
        for seed in range(120):
            graph = random_graph(seed, 6) if seed % 2 else grown(seed, blocks=6, deeds=3, nodes=12, wide=seed % 2 == 0)
            trial = Trial(graph)
            late, early = {}, {}
            for node in reversed(trial.order()):
                uses = trial.fixed[node] + [late[user] for user in trial.users[node]]
                late[node] = lowest_over(trial, node, uses)
            for node in trial.order():
                early[node] = highest_over(trial, node, late[node], early)
            self.assertEqual(ranges(graph), tuple((node, early[node], late[node]) for node in trial.floats))
            bad = [node for node in trial.floats if early[node] is None or late[node] is None]
            bad += [node for node in trial.phis if not trial.fits({}, node)]
            self.assertEqual(refusal(need_sound, graph), ("Unsound", min(bad)) if bad else None)

    def test_refused(self):
        for ask in (earliest, latest):
            for thing in odd_things() + [1, 2, 9, 10]:
                self.assertEqual(refusal(ask, STEADY, thing), ("NoNode", thing))
                self.assertEqual(refusal(ask, (), thing), ("BadGraph", None, None))
            for node in floating_nodes(LOOPED):
                self.assertIsNone(refusal(ask, LOOPED, node))


def lowest_over(trial, node, uses):
    """The latest slot of a node with these uses."""
    if None in uses:
        return None
    found = [slot for slot in trial.slots if all(trial.over[slot, use] for use in uses)]
    if trial.kinds[node] == "load":
        meet = max(found, key=trial.depth)
        thing = trial.graph[1][node]
        found = [slot for slot in found if trial.over[slot, meet] and current(trial.graph, thing[1], slot) == thing[3]]
    return max(found, key=trial.depth) if found else None


def highest_over(trial, node, late, early):
    """The earliest slot of a node by its latest one."""
    above = [early[one] if one in trial.floats else trial.stand({}, one) for one in trial.inputs[node]]
    if late is None or None in above:
        return None
    thing = trial.graph[1][node]
    found = [slot for slot in trial.slots if trial.over[slot, late] and all(trial.over[one, slot] for one in above)]
    if thing[0] == "load":
        found = [slot for slot in found if current(trial.graph, thing[1], slot) == thing[3]]
    if thing[0] in ("div", "rest"):
        found = [slot for slot in found if is_guarded(trial.graph, thing[2], slot)]
    return min(found, key=trial.depth) if found else None


if __name__ == "__main__":
    unittest.main()
