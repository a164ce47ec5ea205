import random
import unittest

from growing import grown
from making import BARE, LEAST, LOOPED, STEADY, TALL
from odd import odd_things
from running import Living
from test_demand import TURNING, one_block
from test_placedrun import HASTY, some_placements
from test_placements import EARLY, with_slot
from trying import refusal

from seaplace.graphs import live_nodes, names_of
from seaplace.liveness import clash, live_at, live_points, made_at, most_live, points, rows_of
from seaplace.placements import early_placement, late_placement

# Node 1 is asked for by both edges of one "if", node 2 by its first alone, whichever way is gone.
EDGES = (
    (
        ("top", (("out", 0),), ("if", 0, "left", "right")),
        ("left", (), ("if", 3, "foot", "right")),
        ("right", (), ("goto", "foot")),
        ("foot", (), ("return", 4)),
    ),
    (("given", 0), ("given", 1), ("given", 2), ("given", 3), ("phi", "foot", (2, 5)), ("phi", "right", (1, 1))),
)


class Liveness(unittest.TestCase):
    def test_rows(self):
        self.assertEqual(rows_of(STEADY, EARLY, "top"), (("node", 0), ("node", 8), ("deed", 0)))
        self.assertEqual(rows_of(STEADY, EARLY, "head"), (("node", 3), ("node", 4), ("node", 7), ("node", 5)))
        self.assertEqual(rows_of(STEADY, EARLY, "foot"), ())
        self.assertEqual(rows_of(graph=STEADY, placement=EARLY, block="done"), (
            ("deed", 0), ("deed", 1), ("node", 6), ("deed", 2), ("deed", 3), ("deed", 4),
        ))
        self.assertEqual(rows_of(STEADY, late_placement(STEADY), "foot"), (("node", 8), ("node", 5)))

    def test_points(self):
        self.assertEqual(points(BARE, ()), (
            ("top", 0), ("top", 1), ("side", 0), ("loop", 0), ("loop", 1), ("last", 0),
        ))
        self.assertEqual(points(LEAST, ()), (("only", 0), ("next", 0)))
        told = points(graph=STEADY, placement=EARLY)
        self.assertEqual(told[:4], (("top", 0), ("top", 1), ("top", 2), ("top", 3)))
        self.assertEqual(len(told), 4 + 5 + 3 + 2 + 1 + 7)

    def test_made(self):
        told = {0: ("top", 1), 1: ("top", 0), 2: ("head", 0), 3: ("head", 1), 4: ("head", 2), 5: ("head", 4),
                6: ("done", 3), 7: ("head", 3), 8: ("top", 2)}
        for node, point in told.items():
            self.assertEqual(made_at(graph=STEADY, placement=EARLY, node=node), point)

    def test_live_by_hand(self):
        # The word 0 is stored by and brought to the head; what is made there is asked for in the loop or behind it.
        self.assertEqual(live_points(STEADY, EARLY, 0), (("top", 1), ("top", 2), ("top", 3)))
        self.assertEqual(live_at(STEADY, EARLY, ("top", 0)), (1,))
        self.assertEqual(live_at(STEADY, EARLY, ("head", 0)), (1, 2, 8))
        self.assertEqual(live_at(STEADY, EARLY, ("head", 4)), (1, 2, 3, 4, 5, 7, 8))
        self.assertEqual(live_at(STEADY, EARLY, ("right", 0)), (1, 2, 3, 5, 7, 8))
        self.assertEqual(live_at(STEADY, EARLY, ("foot", 0)), (1, 2, 3, 5, 8))
        self.assertEqual(live_at(graph=STEADY, placement=EARLY, point=("done", 6)), (2,))
        self.assertEqual(live_points(graph=STEADY, placement=EARLY, node=6), (("done", 3), ("done", 4)))
        self.assertEqual(most_live(STEADY, EARLY), 7)
        self.assertEqual(most_live(graph=BARE, placement=()), 1)
        self.assertEqual(most_live(LEAST, ()), 0)
        self.assertEqual(live_at(LEAST, (), ("next", 0)), ())

    def test_edges_of_one_if(self):
        self.assertEqual(live_at(EDGES, (), ("top", 1)), (0, 1, 2, 3))
        # Behind the block from which both edges lead its phis' inputs aren't live any more, but where they are asked.
        self.assertEqual(live_at(EDGES, (), ("left", 0)), (1, 2, 3))
        self.assertEqual(live_at(EDGES, (), ("right", 0)), (5,))
        self.assertEqual(live_at(EDGES, (), ("foot", 0)), (4,))
        self.assertIs(clash(EDGES, (), 1, 2), True)
        self.assertIs(clash(EDGES, (), 4, 5), False)

    def test_phis_that_change_places(self):
        self.assertIs(clash(TURNING, early_placement(TURNING), 2, 3), True)
        self.assertEqual(made_at(TURNING, early_placement(TURNING), 2), ("turn", 0))

    def test_an_input_that_ends_where_it_is_asked(self):
        graph = one_block([("out", 1)], ("return", 2), [("given", 0), ("add", 0, 0), ("sub", 1, 1)])
        placement = ((1, ("a", 0)), (2, ("a", 1)))
        self.assertEqual(rows_of(graph, placement, "a"), (("node", 1), ("deed", 0), ("node", 2)))
        self.assertEqual([live_at(graph, placement, ("a", at)) for at in range(4)], [(0,), (1,), (1,), (2,)])
        self.assertIs(clash(graph, placement, 0, 1), False)
        self.assertIs(clash(graph, placement, 1, 2), False)
        self.assertIs(clash(graph, placement, 1, 1), False)
        self.assertEqual(most_live(graph, placement), 1)

    def test_a_word_that_nobody_asks_for_on_one_way(self):
        early = early_placement(HASTY)
        self.assertEqual(live_at(HASTY, early, ("top", 3)), (0, 2, 3, 4))
        self.assertEqual(live_at(HASTY, early, ("left", 0)), (3,))
        self.assertEqual(live_at(HASTY, early, ("right", 0)), (0, 4))

    def test_going_on_along_all_ways(self):
        clashes = 0
        for seed in range(70):
            graph = grown(seed, blocks=6, deeds=3, nodes=9, wide=seed % 3 == 0)
            chance = random.Random(seed)
            for placement in some_placements(graph, chance)[:2 + seed % 3]:
                living = Living(graph, placement)
                self.assertEqual(points(graph, placement), tuple(living.points))
                for name in names_of(graph):
                    self.assertEqual(rows_of(graph, placement, name), living.rows[name])
                table = {point: living.live(point) for point in living.points}
                for point, nodes in table.items():
                    self.assertEqual(live_at(graph, placement, point), tuple(nodes))
                self.assertEqual(most_live(graph, placement), max(len(nodes) for nodes in table.values()))
                for node in live_nodes(graph):
                    self.assertEqual(made_at(graph, placement, node), living.made(node))
                    self.assertIn(node, table[living.made(node)])
                    found = tuple(point for point in living.points if node in table[point])
                    self.assertEqual(live_points(graph, placement, node), found)
                for _ in range(6):
                    one, other = chance.choice(live_nodes(graph) or (0,)), chance.choice(live_nodes(graph) or (0,))
                    if live_nodes(graph):
                        both = one != other and any(one in nodes and other in nodes for nodes in table.values())
                        self.assertIs(clash(graph, placement, one, other), both)
                        # They clash just where one lives where the other is made.
                        self.assertEqual(both, one != other and (
                            one in table[living.made(other)] or other in table[living.made(one)]))
                        clashes += both
        self.assertGreater(clashes, 100)

    def test_tall(self):
        for placement in (early_placement(TALL), late_placement(TALL)):
            living = Living(TALL, placement)
            self.assertEqual(points(TALL, placement), tuple(living.points))
            for point in living.points[::9]:
                self.assertEqual(live_at(TALL, placement, point), tuple(living.live(point)))

    def test_refused(self):
        wrong = with_slot(EARLY, 6, ("done", 1))
        asks = (
            lambda *things: rows_of(*things, None), lambda *things: points(*things),
            lambda *things: made_at(*things, None), lambda *things: live_points(*things, None),
            lambda *things: clash(*things, None, None), lambda *things: live_at(*things, None),
            lambda *things: most_live(*things),
        )
        for ask in asks:
            for thing in odd_things():
                self.assertEqual(refusal(ask, STEADY, thing), ("BadPlacement", None))
                # Of a graph that isn't sound no placement is legal: it is refused by that.
                self.assertEqual(refusal(ask, LOOPED, thing), ("BadPlacement", None))
                self.assertEqual(refusal(ask, thing, thing)[0], "BadGraph")
            self.assertEqual(refusal(ask, STEADY, wrong), ("BadPlacement", 6))
        for thing in odd_things() + [9, 10]:
            if thing != "nowhere":
                self.assertEqual(refusal(rows_of, STEADY, EARLY, thing), ("NoBlock", thing))
            for ask in (made_at, live_points, lambda *things: clash(*things, None), lambda *things: clash(*things, 1)):
                self.assertEqual(refusal(ask, STEADY, EARLY, thing), ("NoNode", thing))
            self.assertEqual(refusal(clash, STEADY, EARLY, 1, thing), ("NoNode", thing))
            self.assertEqual(refusal(live_at, STEADY, EARLY, thing)[0], "OutOfPlace")
            self.assertEqual(refusal(live_at, STEADY, EARLY, (thing, 0))[0], "OutOfPlace")
            if thing != 9:
                self.assertEqual(refusal(live_at, STEADY, EARLY, ("top", thing))[0], "OutOfPlace")
        for point in (("top", 4), ("done", 7), ["top", 0], ("top", 0, 0), ("top",), ("top", False)):
            self.assertEqual(refusal(live_at, STEADY, EARLY, point)[0], "OutOfPlace")
        self.assertIsNone(refusal(live_at, STEADY, EARLY, ("top", 3)))


if __name__ == "__main__":
    unittest.main()
