"""What holds of every function: nothing is changed, arguments go by names, the graph is refused ahead."""

import copy
import inspect
import unittest
from importlib import import_module

from making import LOOPED
from odd import BESIDE, CALLS, NAMED, odd_things

from seaplace.errors import BadGraph, GraphError, MissError, UnsoundError
from seaplace.graphs import is_graph
from seaplace.graphtext import read_graph

INTERFACE = {
    "words": {
        "is_whole": "(thing)", "is_among": "(thing, least, most)", "is_name": "(thing)",
        "is_word": "(thing, *, most=65535)", "number_of": "(word)", "words_of": "(row)",
    },
    "graphs": {
        "is_graph": "(thing)", "need_graph": "(graph)", "names_of": "(graph)", "block_of": "(graph, name)",
        "node_of": "(graph, node)", "ways_of": "(graph, name)", "predecessors": "(graph, name)",
        "inputs_of": "(graph, node)", "slots_of": "(graph)", "is_slot": "(graph, thing)", "live_nodes": "(graph)",
        "floating_nodes": "(graph)", "fixed_uses": "(graph)",
    },
    "graphtext": {"graph_text": "(graph)", "read_graph": "(text)"},
    "flow": {"edges": "(graph)", "shortest_path": "(graph, one, other, *, without=())"},
    "dominators": {
        "dominators": "(graph)", "dominates": "(graph, slot, other)", "chain": "(graph, slot)",
        "meet": "(graph, slots)", "above": "(graph, block)",
    },
    "treepaper": {"tree_paper": "(graph)", "check_tree": "(graph, paper)"},
    "joins": {"frontier": "(graph, block)", "joins": "(graph, blocks)"},
    "joinpaper": {"join_paper": "(graph, blocks)", "check_joins": "(graph, blocks, paper)"},
    "loops": {"loops": "(graph)", "depth_of": "(graph, block)", "is_reducible": "(graph)"},
    "versions": {
        "new_heads": "(graph, region)", "versions": "(graph, region)", "current": "(graph, region, slot)",
    },
    "guards": {"guards_of": "(graph, node)", "is_guarded": "(graph, node, slot)"},
    "ranges": {
        "order_of": "(graph)", "earliest": "(graph, node)", "latest": "(graph, node)", "ranges": "(graph)",
        "is_sound": "(graph)", "need_sound": "(graph)",
    },
    "placements": {
        "does_fit": "(graph, placement, node)", "need_placement": "(graph, placement)",
        "is_placement": "(graph, placement)", "early_placement": "(graph)", "late_placement": "(graph)",
        "legal_placements": "(graph, *, most=2000)", "count_placements": "(graph, *, most=2000)",
        "nth_placement": "(graph, number)", "place_number": "(graph, placement)",
    },
    "rangepaper": {"range_paper": "(graph)", "check_ranges": "(graph, paper)"},
    "costs": {
        "default_profile": "(graph)", "held_slots": "(graph, placement, node)",
        "cost_parts": "(graph, placement, *, profile=None, hold=1)",
        "cost_of": "(graph, placement, *, profile=None, hold=1)",
    },
    "cheapest": {
        "pinned_ranges": "(graph, pins=())", "cheapest": "(graph, *, profile=None, hold=1, pins=(), early=False)",
        "pinned_cost": "(graph, node, slot, *, profile=None, hold=1)",
    },
    "tollcheck": {
        "toll_paper": "(graph, *, profile=None, hold=1)", "toll_bound": "(graph, tolls, *, profile=None, hold=1)",
        "check_tolls": "(graph, paper, *, profile=None, hold=1)",
    },
    "demand": {"run": "(graph, given=(), *, most=200)", "trace": "(graph, given=(), *, most=200)"},
    "runpaper": {
        "run_paper": "(graph, given=(), *, most=200)", "check_run": "(graph, paper, given=(), *, most=200)",
    },
    "placedrun": {
        "run_placed": "(graph, placement, given=(), *, most=200)",
        "placed_trace": "(graph, placement, given=(), *, most=200)",
        "speculated": "(graph, placement, given=(), *, most=200)",
        "work_of": "(graph, placement, given=(), *, hold=1, most=200)",
    },
    "profiles": {
        "counts_of": "(graph, given=(), *, most=200)", "counts_of_all": "(graph, givens, *, most=200, top=999)",
    },
    "liveness": {
        "rows_of": "(graph, placement, block)", "points": "(graph, placement)",
        "made_at": "(graph, placement, node)", "live_points": "(graph, placement, node)",
        "clash": "(graph, placement, one, other)", "live_at": "(graph, placement, point)",
        "most_live": "(graph, placement)",
    },
    "registers": {
        "registers_of": "(graph, placement)", "register_paper": "(graph, placement)",
        "fewest_registers": "(graph, placement)", "squeezed": "(graph, many, *, most=300)",
    },
    "registercheck": {
        "need_registers": "(graph, placement, registers, *, right=True)",
        "check_registers": "(graph, placement, paper)",
    },
    "registerrun": {"run_in_registers": "(graph, placement, registers, given=(), *, most=200)"},
    "moves": {
        "are_pairs": "(thing)", "are_moves": "(thing)", "lone_rings": "(pairs)", "fewest_moves": "(pairs)",
        "single_moves": "(pairs, *, spare=None)", "at_once": "(pairs, words)", "one_by_one": "(moves, words)",
        "check_moves": "(pairs, moves, *, spare=None)",
    },
    "code": {
        "code_of": "(graph, placement, *, registers=None)", "check_code": "(graph, placement, registers, code)",
    },
    "coderun": {
        "is_code": "(thing)", "need_code": "(code)", "run_code": "(code, given=(), *, most=200)",
    },
    "codetext": {"code_text": "(code)", "read_code": "(text)"},
}


def lists_within(thing):
    """All lists and dicts in a thing."""
    found = []
    if isinstance(thing, (list, dict)):
        found.append(thing)
    if isinstance(thing, (list, tuple, dict)):
        for part in thing.values() if isinstance(thing, dict) else thing:
            found.extend(lists_within(part))
    return found


class Everywhere(unittest.TestCase):
    def test_interface(self):
        for stem, told in INTERFACE.items():
            module = import_module("seaplace." + stem)
            for name, arguments in told.items():
                function = getattr(module, name)
                self.assertEqual(function.__module__, "seaplace." + stem)
                self.assertEqual(str(inspect.signature(function)), arguments)

    def test_every_function_is_called(self):
        called = {call[0].__name__ for call in CALLS + BESIDE}
        told = {name for stem, names in INTERFACE.items() if stem != "words" for name in names}
        self.assertEqual(called, told)

    def test_by_place_and_by_name(self):
        for function, names, things in CALLS + BESIDE:
            named = dict(zip(names, things))
            self.assertEqual(function(*things), function(**named))
            # In another order, too.
            self.assertEqual(function(*things), function(**{name: named[name] for name in reversed(names)}))

    def test_nothing_is_changed(self):
        for function, things, named in self.each_call():
            ahead = copy.deepcopy((things, named))
            function(*things, **named)
            self.assertEqual((things, named), ahead)
            self.assertEqual([list(one) for one in named.values() if isinstance(one, dict)],
                             [list(one) for one in ahead[1].values() if isinstance(one, dict)])

    def each_call(self):
        return [(function, things, {}) for function, _, things in CALLS + BESIDE] + list(NAMED)

    def test_every_named_argument_is_handed_in(self):
        named = {function.__name__: set(named) for function, _, named in NAMED}
        for stem, told in INTERFACE.items():
            for name, arguments in told.items():
                behind = arguments.partition("*, ")[2].strip("()").split(", ") if stem != "words" else []
                wanted = {one.partition("=")[0] for one in behind if one} - {"without", "pins"}
                self.assertEqual(named.get(name, set()) - {"pins"}, wanted, name)

    def test_what_is_told_is_the_askers_own(self):
        for function, things, named in self.each_call():
            told = function(*things, **named)
            kept = copy.deepcopy(told)
            again = function(*things, **named)
            handed = [id(one) for one in lists_within((things, named))]
            # Each of the lists and dicts told is one by itself.
            self.assertEqual(len({id(one) for one in lists_within(told)}), len(lists_within(told)))
            self.assertFalse({id(one) for one in lists_within(told)} & {id(one) for one in lists_within(again)})
            self.assertFalse({id(one) for one in lists_within(told)} & set(handed))
            for one in lists_within(told):
                one.clear()
            self.assertEqual(again, kept)
            self.assertEqual(function(*things, **named), kept)

    def test_what_is_no_graph_is_refused_ahead(self):
        for function, _, things in CALLS:
            for thing in odd_things():
                self.assertIs(is_graph(thing), False)
                with self.assertRaises(BadGraph):
                    function(thing, *things[1:])
                with self.assertRaises(BadGraph):
                    function(thing, *[thing for _ in things[1:]])
            with self.assertRaises(BadGraph) as caught:
                function(([LOOPED[0]], LOOPED[1]), *[None for _ in things[1:]])
            self.assertEqual((caught.exception.part, caught.exception.number), ("blocks", None))

    def test_of_anything(self):
        # Whatever is handed in beside the graph is answered, or refused by a class of this package.
        beside = [(function, 0, things) for function, _, things in BESIDE]
        for function, first, things in [(function, 1, things) for function, _, things in CALLS] + beside:
            for place in range(first, len(things)):
                for thing in odd_things() + [0, 1, "top", ("top", 0), ["top"], ("top",), (("top", 0),)]:
                    told = list(things)
                    told[place] = thing
                    try:
                        function(*told)
                    except (GraphError, MissError, UnsoundError):
                        pass
        for function, things, named in NAMED:
            for name in named:
                for thing in odd_things() + [0, 1, "top", ("top", 0), ["top"], ("top",), (("top", 0),)]:
                    try:
                        function(*things, **{**named, name: thing})
                    except (GraphError, MissError, UnsoundError):
                        pass

    def test_named_arguments_go_by_names_alone(self):
        for function, things, named in NAMED:
            with self.assertRaises(TypeError):
                function(*things, *named.values())

    def test_texts_and_questions_of_anything(self):
        for thing in odd_things():
            with self.assertRaises(GraphError):
                read_graph(thing)


if __name__ == "__main__":
    unittest.main()
