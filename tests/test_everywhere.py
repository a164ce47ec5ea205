"""What holds of every function: nothing is changed, arguments go by names, the graph is refused ahead."""

import copy
import inspect
import unittest
from importlib import import_module

from making import LOOPED, STEADY
from odd import BESIDE, CALLS, NAMED, OF_GOOD, odd_things

from seaplace.desk import Desk
from seaplace.errors import BadGraph, GraphError, MissError, UnsoundError
from seaplace.graphs import is_graph
from seaplace.graphtext import read_graph
from seaplace.runpaper import run_paper
from seaplace.unit import Unit

INTERFACE = {
    "words": {
        "is_whole": "(thing)", "is_among": "(thing, least, most)", "is_name": "(thing)",
        "is_word": "(thing, *, most=65535)", "number_of": "(word)", "words_of": "(row)",
    },
    "graphs": {
        "is_graph": "(thing)", "need_graph": "(graph)", "names_of": "(graph)", "block_of": "(graph, name)",
        "node_of": "(graph, node)", "ways_of": "(graph, name)", "predecessors": "(graph, name)",
        "inputs_of": "(graph, node)", "slots_of": "(graph)", "is_slot": "(graph, thing)", "live_nodes": "(graph)",
        "floating_nodes": "(graph)", "fixed_uses": "(graph)",
    },
    "graphtext": {"graph_text": "(graph)", "read_graph": "(text)"},
    "flow": {"edges": "(graph)", "shortest_path": "(graph, one, other, *, without=())"},
    "dominators": {
        "dominators": "(graph)", "dominates": "(graph, slot, other)", "chain": "(graph, slot)",
        "meet": "(graph, slots)", "above": "(graph, block)",
    },
    "treepaper": {"tree_paper": "(graph)", "check_tree": "(graph, paper)"},
    "joins": {"frontier": "(graph, block)", "joins": "(graph, blocks)"},
    "joinpaper": {"join_paper": "(graph, blocks)", "check_joins": "(graph, blocks, paper)"},
    "loops": {"loops": "(graph)", "depth_of": "(graph, block)", "is_reducible": "(graph)"},
    "versions": {
        "new_heads": "(graph, region)", "versions": "(graph, region)", "current": "(graph, region, slot)",
    },
    "guards": {"guards_of": "(graph, node)", "is_guarded": "(graph, node, slot)"},
    "ranges": {
        "order_of": "(graph)", "earliest": "(graph, node)", "latest": "(graph, node)", "ranges": "(graph)",
        "is_sound": "(graph)", "need_sound": "(graph)",
    },
    "placements": {
        "does_fit": "(graph, placement, node)", "need_placement": "(graph, placement)",
        "is_placement": "(graph, placement)", "early_placement": "(graph)", "late_placement": "(graph)",
        "legal_placements": "(graph, *, most=2000)", "count_placements": "(graph, *, most=2000)",
        "nth_placement": "(graph, number)", "place_number": "(graph, placement)",
    },
    "rangepaper": {"range_paper": "(graph)", "check_ranges": "(graph, paper)"},
    "costs": {
        "default_profile": "(graph)", "held_slots": "(graph, placement, node)",
        "cost_parts": "(graph, placement, *, profile=None, hold=1)",
        "cost_of": "(graph, placement, *, profile=None, hold=1)",
    },
    "cheapest": {
        "pinned_ranges": "(graph, pins=())", "cheapest": "(graph, *, profile=None, hold=1, pins=(), early=False)",
        "pinned_cost": "(graph, node, slot, *, profile=None, hold=1)",
    },
    "tollcheck": {
        "toll_paper": "(graph, *, profile=None, hold=1)", "toll_bound": "(graph, tolls, *, profile=None, hold=1)",
        "check_tolls": "(graph, paper, *, profile=None, hold=1)",
    },
    "demand": {"run": "(graph, given=(), *, most=200)", "trace": "(graph, given=(), *, most=200)"},
    "runpaper": {
        "run_paper": "(graph, given=(), *, most=200)", "check_run": "(graph, paper, given=(), *, most=200)",
    },
    "placedrun": {
        "run_placed": "(graph, placement, given=(), *, most=200)",
        "placed_trace": "(graph, placement, given=(), *, most=200)",
        "speculated": "(graph, placement, given=(), *, most=200)",
        "work_of": "(graph, placement, given=(), *, hold=1, most=200)",
    },
    "profiles": {
        "counts_of": "(graph, given=(), *, most=200)", "counts_of_all": "(graph, givens, *, most=200, top=999)",
    },
    "liveness": {
        "rows_of": "(graph, placement, block)", "points": "(graph, placement)",
        "made_at": "(graph, placement, node)", "live_points": "(graph, placement, node)",
        "clash": "(graph, placement, one, other)", "live_at": "(graph, placement, point)",
        "most_live": "(graph, placement)",
    },
    "registers": {
        "registers_of": "(graph, placement)", "register_paper": "(graph, placement)",
        "fewest_registers": "(graph, placement)", "squeezed": "(graph, many, *, most=300)",
    },
    "registercheck": {
        "need_registers": "(graph, placement, registers, *, right=True)",
        "check_registers": "(graph, placement, paper)",
    },
    "registerrun": {"run_in_registers": "(graph, placement, registers, given=(), *, most=200)"},
    "moves": {
        "are_pairs": "(thing)", "are_moves": "(thing)", "lone_rings": "(pairs)", "fewest_moves": "(pairs)",
        "single_moves": "(pairs, *, spare=None)", "at_once": "(pairs, words)", "one_by_one": "(moves, words)",
        "check_moves": "(pairs, moves, *, spare=None)",
    },
    "code": {
        "code_of": "(graph, placement, *, registers=None)", "check_code": "(graph, placement, registers, code)",
    },
    "coderun": {
        "is_code": "(thing)", "need_code": "(code)", "run_code": "(code, given=(), *, most=200)",
    },
    "codetext": {"code_text": "(code)", "read_code": "(text)"},
    "alike": {"classes": "(graph)", "are_alike": "(graph, one, other)"},
    "alikepaper": {"alike_paper": "(graph)", "check_alike": "(graph, paper)"},
    "simpler": {"merged": "(graph)", "folded": "(graph)", "tidied": "(graph)", "simple": "(graph)"},
    "unittext": {"unit_text": "(graph, profile, pins, hold)"},
    "unitread": {"read_unit": "(text)"},
}

# The methods of each class, and good things to hand in to them, by their names.
METHODS = {
    "put_node": ("(self, node, thing)", {"node": 9, "thing": ("word", 3)}),
    "add_node": ("(self, thing)", {"thing": ("word", 3)}),
    "add_deed": ("(self, block, deed, at=None)", {"block": "left", "deed": ("out", 0), "at": 0}),
    "drop_deed": ("(self, block, at)", {"block": "done", "at": 4}),
    "set_end": ("(self, block, end)", {"block": "done", "end": ("return", 0)}),
    "split_edge": ("(self, block, to, name)", {"block": "top", "to": "head", "name": "x"}),
    "set_count": ("(self, block, count)", {"block": "left", "count": 3}),
    "set_hold": ("(self, hold)", {"hold": 3}),
    "pin": ("(self, node, slot)", {"node": 8, "slot": ("top", 1)}),
    "unpin": ("(self, node)", {"node": 8}),
    "merge": ("(self)", {}), "fold": ("(self)", {}), "tidy": ("(self)", {}),
    "many": ("(self, deeds)", {"deeds": (("fold",), ("set_hold", 2))}),
    "undo": ("(self)", {}), "redo": ("(self)", {}), "graph": ("(self)", {}), "profile": ("(self)", {}),
    "pins": ("(self)", {}), "hold": ("(self)", {}), "ranges": ("(self)", {}),
    "placement": ("(self, *, early=False)", {"early": True}), "cost": ("(self)", {}),
    "run": ("(self, given=(), *, most=200)", {"given": (1, 2), "most": 3}), "classes": ("(self)", {}),
    "registers": ("(self)", {}), "deeds": ("(self)", {}), "log": ("(self)", {}), "busy": ("(self)", {}),
    "copied": ("(self)", {}),
}
DESK_METHODS = {
    "say": ("(self, line)", {"line": "text"}), "unit": ("(self, name='first')", {"name": "first"}),
    "at": ("(self)", {}),
}
LATER = (
    "undo", "redo", "graph", "profile", "pins", "hold", "ranges", "placement", "cost", "run", "classes", "registers",
    "deeds", "log", "busy", "copied",
)


def some_unit():
    """A unit with a deed that stands, one taken back, and a pin."""
    unit = Unit(STEADY, pins=((8, ("top", 0)),))
    unit.set_hold(4)
    unit.set_hold(5)
    unit.undo()
    return unit


def told_of(unit):
    """All that a unit tells without being asked for more."""
    return (unit.graph(), unit.profile(), unit.pins(), unit.hold(), unit.deeds(), unit.log(), str(unit))


def lists_within(thing):
    """All lists and dicts in a thing."""
    found = []
    if isinstance(thing, (list, dict)):
        found.append(thing)
    if isinstance(thing, (list, tuple, dict)):
        for part in thing.values() if isinstance(thing, dict) else thing:
            found.extend(lists_within(part))
    return found


class Everywhere(unittest.TestCase):
    def test_interface(self):
        for stem, told in INTERFACE.items():
            module = import_module("seaplace." + stem)
            for name, arguments in told.items():
                function = getattr(module, name)
                self.assertEqual(function.__module__, "seaplace." + stem)
                self.assertEqual(str(inspect.signature(function)), arguments)

    def test_every_function_is_called(self):
        called = {call[0].__name__ for call in CALLS + BESIDE + OF_GOOD}
        told = {name for stem, names in INTERFACE.items() if stem != "words" for name in names}
        self.assertEqual(called, told)

    def test_by_place_and_by_name(self):
        for function, names, things in CALLS + BESIDE + OF_GOOD:
            named = dict(zip(names, things))
            self.assertEqual(function(*things), function(**named))
            # In another order, too.
            self.assertEqual(function(*things), function(**{name: named[name] for name in reversed(names)}))

    def test_with_what_may_be_left_out_left_out(self):
        # Left out, or handed in as it is told in the interface, it is the same.
        left = 0
        for function, names, things in CALLS + BESIDE:
            named = dict(zip(names, things))
            for name, told in inspect.signature(function).parameters.items():
                if told.default is not inspect.Parameter.empty:
                    without = {key: named[key] for key in named if key != name}
                    if name in named and function.__name__ == "check_run":
                        without["paper"] = run_paper(STEADY)
                    self.assertEqual(function(**without), function(**{**without, name: told.default}))
                    left += 1
        self.assertGreater(left, 40)
        for name, (_, things) in METHODS.items():
            for key, told in inspect.signature(getattr(Unit, name)).parameters.items():
                if key != "self" and told.default is not inspect.Parameter.empty:
                    without = {one: things[one] for one in things if one != key}
                    one, other = some_unit(), some_unit()
                    answer = getattr(one, name)(**without)
                    self.assertEqual(getattr(other, name)(**{**without, key: told.default}), answer)
                    self.assertEqual(told_of(one), told_of(other))

    def test_nothing_is_changed(self):
        for function, things, named in self.each_call():
            ahead = copy.deepcopy((things, named))
            function(*things, **named)
            self.assertEqual((things, named), ahead)
            self.assertEqual([list(one) for one in named.values() if isinstance(one, dict)],
                             [list(one) for one in ahead[1].values() if isinstance(one, dict)])

    def each_call(self):
        return [(function, things, {}) for function, _, things in CALLS + BESIDE + OF_GOOD] + list(NAMED)

    def test_every_named_argument_is_handed_in(self):
        named = {function.__name__: set(named) for function, _, named in NAMED}
        for stem, told in INTERFACE.items():
            for name, arguments in told.items():
                behind = arguments.partition("*, ")[2].strip("()").split(", ") if stem != "words" else []
                wanted = {one.partition("=")[0] for one in behind if one} - {"without", "pins"}
                self.assertEqual(named.get(name, set()) - {"pins"}, wanted, name)

    def test_what_is_told_is_the_askers_own(self):
        for function, things, named in self.each_call():
            told = function(*things, **named)
            kept = copy.deepcopy(told)
            again = function(*things, **named)
            handed = [id(one) for one in lists_within((things, named))]
            # Each of the lists and dicts told is one by itself.
            self.assertEqual(len({id(one) for one in lists_within(told)}), len(lists_within(told)))
            self.assertFalse({id(one) for one in lists_within(told)} & {id(one) for one in lists_within(again)})
            self.assertFalse({id(one) for one in lists_within(told)} & set(handed))
            for one in lists_within(told):
                one.clear()
            self.assertEqual(again, kept)
            self.assertEqual(function(*things, **named), kept)

    def test_what_is_no_graph_is_refused_ahead(self):
        for function, _, things in CALLS:
            for thing in odd_things():
                self.assertIs(is_graph(thing), False)
                with self.assertRaises(BadGraph):
                    function(thing, *things[1:])
                with self.assertRaises(BadGraph):
                    function(thing, *[thing for _ in things[1:]])
            with self.assertRaises(BadGraph) as caught:
                function(([LOOPED[0]], LOOPED[1]), *[None for _ in things[1:]])
            self.assertEqual((caught.exception.part, caught.exception.number), ("blocks", None))

    def test_of_anything(self):
        # Whatever is handed in beside the graph is answered, or refused by a class of this package.
        beside = [(function, 0, things) for function, _, things in BESIDE]
        for function, first, things in [(function, 1, things) for function, _, things in CALLS] + beside:
            for place in range(first, len(things)):
                for thing in odd_things() + [0, 1, "top", ("top", 0), ["top"], ("top",), (("top", 0),)]:
                    told = list(things)
                    told[place] = thing
                    try:
                        function(*told)
                    except (GraphError, MissError, UnsoundError):
                        pass
        for function, things, named in NAMED:
            for name in named:
                for thing in odd_things() + [0, 1, "top", ("top", 0), ["top"], ("top",), (("top", 0),)]:
                    try:
                        function(*things, **{**named, name: thing})
                    except (GraphError, MissError, UnsoundError):
                        pass

    def test_named_arguments_go_by_names_alone(self):
        for function, things, named in NAMED:
            with self.assertRaises(TypeError):
                function(*things, *named.values())

    def test_methods(self):
        for kind, methods in ((Unit, METHODS), (Desk, DESK_METHODS)):
            for name, (arguments, _) in methods.items():
                # Defined in the class itself.
                self.assertIn(name, vars(kind))
                self.assertEqual(str(inspect.signature(vars(kind)[name])), arguments)
        for name in ("__init__", "__eq__", "__len__", "__str__"):
            self.assertIn(name, vars(Unit))
        self.assertEqual(str(inspect.signature(Unit)), "(graph=None, *, profile=None, pins=(), hold=1)")
        self.assertEqual(str(inspect.signature(Desk)), "()")
        self.assertEqual((Unit.__module__, Desk.__module__), ("seaplace.unit", "seaplace.desk"))

    def test_methods_by_place_and_by_name(self):
        for name, (arguments, things) in METHODS.items():
            one, other, last = some_unit(), some_unit(), some_unit()
            ahead = copy.deepcopy(things)
            told = getattr(one, name)(**things)
            self.assertEqual(getattr(other, name)(**{key: things[key] for key in reversed(things)}), told)
            self.assertEqual(told_of(one), told_of(other))
            if "*" not in arguments:
                self.assertEqual(getattr(last, name)(*things.values()), told)
                self.assertEqual(told_of(one), told_of(last))
            if name not in LATER:
                self.assertIsNone(told)
                self.assertEqual(len(one), 2)
            self.assertEqual(things, ahead)
        desk = Desk()
        for name, (_, things) in DESK_METHODS.items():
            self.assertEqual(getattr(desk, name)(**things), getattr(desk, name)(*things.values()))

    def test_what_methods_tell_is_the_askers_own(self):
        for name in LATER:
            unit = some_unit()
            things = METHODS[name][1]
            if name in ("undo", "redo"):
                continue
            ahead = told_of(unit)
            told = getattr(unit, name)(**things)
            kept = copy.deepcopy(told)
            for one in lists_within(told):
                one.clear()
            self.assertEqual(told_of(unit), ahead)
            self.assertEqual(getattr(unit, name)(**things), kept)
            told = getattr(unit, name)(**things)
            unit.many((("add_node", ("word", 7)), ("set_count", "top", 77), ("unpin", 8)))
            unit.undo()
            self.assertEqual(told, kept)

    def test_methods_of_anything(self):
        for name, (_, things) in METHODS.items():
            for key in things:
                for thing in odd_things() + [0, 1, "top", ("top", 0), ["top"], ("top",), (("top", 0),), (("fold",),)]:
                    unit = some_unit()
                    ahead = told_of(unit)
                    try:
                        getattr(unit, name)(**{**things, key: thing})
                    except (GraphError, MissError, UnsoundError):
                        log = unit.log()
                        self.assertEqual(told_of(unit)[:5], ahead[:5])
                        self.assertEqual(len(log), len(ahead[5]) + 2 * (name not in LATER))
                    self.assertIs(unit.busy(), False)
        desk = Desk()
        for thing in odd_things():
            self.assertEqual(desk.say(thing), "no line")

    def test_texts_and_questions_of_anything(self):
        for thing in odd_things():
            with self.assertRaises(GraphError):
                read_graph(thing)


if __name__ == "__main__":
    unittest.main()
