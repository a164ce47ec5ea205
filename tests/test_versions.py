import unittest

from making import LOOPED, diamond, middle, random_graph, slot_over
from odd import odd_things

from seaplace.errors import BadGraph, OutOfPlace
from seaplace.graphs import names_of, slots_of
from seaplace.joins import joins
from seaplace.versions import current, new_heads, versions


def with_deeds(graph, told):
    """A graph whose blocks have other deeds."""
    return (tuple((name, told.get(name, ()), end) for name, _, end in graph[0]), graph[1])


STORE = ("store", 0, 0, 0)
OTHER = ("store", 1, 0, 0)


class Versions(unittest.TestCase):
    def test_without_stores(self):
        for region in (0, 1):
            self.assertEqual(new_heads(diamond(), region), ("top",))
            self.assertEqual(versions(diamond(), region), (("top", 0),))
            for slot in slots_of(diamond()):
                self.assertEqual(current(diamond(), region, slot), ("top", 0))

    def test_of_a_loop(self):
        self.assertEqual(new_heads(LOOPED, 0), ("top", "head", "foot"))
        self.assertEqual(versions(LOOPED, 0), (("top", 0), ("top", 1), ("head", 0), ("left", 2), ("foot", 0)))
        told = {
            ("top", 0): ("top", 0), ("top", 1): ("top", 1), ("head", 0): ("head", 0), ("left", 0): ("head", 0),
            ("left", 1): ("head", 0), ("left", 2): ("left", 2), ("right", 0): ("head", 0), ("foot", 0): ("foot", 0),
            ("done", 0): ("foot", 0), ("done", 5): ("foot", 0),
        }
        for slot, version in told.items():
            self.assertEqual(current(LOOPED, 0, slot), version)

    def test_regions_keep_apart(self):
        self.assertEqual(new_heads(LOOPED, 1), ("top",))
        self.assertEqual(versions(LOOPED, 1), (("top", 0), ("done", 3), ("done", 4)))
        told = {2: ("top", 0), 3: ("done", 3), 4: ("done", 4), 5: ("done", 4)}
        for place, version in told.items():
            self.assertEqual(current(graph=LOOPED, region=1, slot=("done", place)), version)

    def test_a_store_in_the_entry(self):
        graph = with_deeds(diamond(), {"top": (OTHER, STORE)})
        self.assertEqual(new_heads(graph, 0), ("top",))
        self.assertEqual(versions(graph, 0), (("top", 0), ("top", 2)))
        self.assertEqual(current(graph, 0, ("top", 1)), ("top", 0))
        self.assertEqual(current(graph, 0, ("foot", 0)), ("top", 2))
        self.assertEqual(versions(graph, 1), (("top", 0), ("top", 1)))

    def test_two_stores_in_one_block(self):
        graph = with_deeds(diamond(), {"left": (STORE, ("out", 0), STORE, OTHER)})
        self.assertEqual(new_heads(graph, 0), ("top", "foot"))
        self.assertEqual(versions(graph, 0), (("top", 0), ("left", 1), ("left", 3), ("foot", 0)))
        self.assertEqual([current(graph, 0, ("left", place)) for place in range(5)], [
            ("top", 0), ("left", 1), ("left", 1), ("left", 3), ("left", 3),
        ])
        self.assertEqual(versions(graph, 1), (("top", 0), ("left", 4), ("foot", 0)))

    def test_a_store_at_a_new_head(self):
        graph = with_deeds(diamond(), {"left": (STORE,), "foot": (STORE,)})
        self.assertEqual(versions(graph, 0), (("top", 0), ("left", 1), ("foot", 0), ("foot", 1)))
        self.assertEqual(current(graph, 0, ("foot", 0)), ("foot", 0))
        self.assertEqual(current(graph, 0, ("right", 0)), ("top", 0))

    def test_a_loop_without_a_head(self):
        graph = with_deeds(middle(), {"b": (STORE,)})
        self.assertEqual(new_heads(graph, 0), ("top", "a", "b"))
        self.assertEqual(versions(graph, 0), (("top", 0), ("a", 0), ("b", 0), ("b", 1)))
        self.assertEqual(current(graph, 0, ("c", 0)), ("a", 0))

    def test_many_by_hand(self):
        for seed in range(60):
            graph = random_graph(seed, 8)
            for region in (0, 1):
                stores = [(name, at) for name, deeds, _ in graph[0] for at, deed in enumerate(deeds)
                          if deed[:2] == ("store", region)]
                met = joins(graph, [name for name, _ in stores])
                heads = tuple(name for name in names_of(graph) if name in met or name == "top")
                self.assertEqual(new_heads(graph, region), heads)
                begun = {(name, 0) for name in heads} | {(name, at + 1) for name, at in stores}
                self.assertEqual(versions(graph, region), tuple(one for one in slots_of(graph) if one in begun))
                for slot in slots_of(graph):
                    over = [one for one in begun if slot_over(graph, one, slot)]
                    lowest = [one for one in over if all(slot_over(graph, other, one) for other in over)]
                    self.assertEqual([current(graph, region, slot)], lowest)

    def test_refused(self):
        for thing in odd_things() + [2, "0", (0,), [0]]:
            for ask in (new_heads, versions):
                with self.assertRaises(OutOfPlace):
                    ask(LOOPED, thing)
                with self.assertRaises(BadGraph):
                    ask(None, thing)
            with self.assertRaises(OutOfPlace):
                current(LOOPED, thing, ("top", 0))
            with self.assertRaises(OutOfPlace):
                current(LOOPED, 0, thing)
            with self.assertRaises(BadGraph):
                current(thing, thing, thing)


if __name__ == "__main__":
    unittest.main()
