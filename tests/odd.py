"""Things of all kinds, and calls of every function that takes graphs."""

from making import LOOPED, STEADY

from seaplace.alike import are_alike, classes
from seaplace.alikepaper import alike_paper, check_alike
from seaplace.cheapest import cheapest, pinned_cost, pinned_ranges
from seaplace.code import check_code, code_of
from seaplace.coderun import is_code, need_code, run_code
from seaplace.codetext import code_text, read_code
from seaplace.costs import cost_of, cost_parts, default_profile, held_slots
from seaplace.demand import run, trace
from seaplace.dominators import above, chain, dominates, dominators, meet
from seaplace.flow import edges, shortest_path
from seaplace.graphs import (
    block_of, fixed_uses, floating_nodes, inputs_of, is_graph, is_slot, live_nodes, names_of, need_graph, node_of,
    predecessors, slots_of, ways_of,
)
from seaplace.graphtext import graph_text, read_graph
from seaplace.guards import guards_of, is_guarded
from seaplace.joinpaper import check_joins, join_paper
from seaplace.joins import frontier, joins
from seaplace.liveness import clash, live_at, live_points, made_at, most_live, points, rows_of
from seaplace.loops import depth_of, is_reducible, loops
from seaplace.moves import (
    are_moves, are_pairs, at_once, check_moves, fewest_moves, lone_rings, one_by_one, single_moves,
)
from seaplace.placedrun import placed_trace, run_placed, speculated, work_of
from seaplace.placements import (
    count_placements, does_fit, early_placement, is_placement, late_placement, legal_placements, need_placement,
    nth_placement, place_number,
)
from seaplace.profiles import counts_of, counts_of_all
from seaplace.rangepaper import check_ranges, range_paper
from seaplace.ranges import earliest, is_sound, latest, need_sound, order_of, ranges
from seaplace.registercheck import check_registers, need_registers
from seaplace.registerrun import run_in_registers
from seaplace.registers import fewest_registers, register_paper, registers_of, squeezed
from seaplace.runpaper import check_run, run_paper
from seaplace.simpler import folded, merged, simple, tidied
from seaplace.tollcheck import check_tolls, toll_bound, toll_paper
from seaplace.treepaper import check_tree, tree_paper
from seaplace.unitread import read_unit
from seaplace.unittext import unit_text
from seaplace.versions import current, new_heads, versions


def deep(many=100000):
    """A tuple within a tuple, and so on."""
    thing = ()
    for _ in range(many):
        thing = (thing,)
    return thing


DEEP = deep()


def odd_things():
    """Things none of which is a graph, a block's name of LOOPED, one of its slots, or a list or tuple of such."""
    return [
        None, True, False, -1, 10 ** 5000, -(10 ** 5000), "", "nowhere", "Top", "top ", "a b", b"top", {}, {"top": 1},
        {"top"}, (None,), ("top", True), ("top", -1), ("top", 10 ** 5000), ("nowhere", 0), ["top", 0], ("top",),
        ("top", 0, 0), ([], []), ((), ()), [[]], DEEP, [DEEP], (DEEP, DEEP), (("top", (), ("return", 0)),),
        ((("top", (), ("return", True)),), (("word", 1),)), object(), frozenset(("top",)), range(3), len, int,
    ]


EARLY = early_placement(STEADY)

# Each function, good things to hand in, and by what names.
CALLS = (
    (need_graph, ("graph",), (LOOPED,)),
    (names_of, ("graph",), (LOOPED,)),
    (block_of, ("graph", "name"), (LOOPED, "head")),
    (node_of, ("graph", "node"), (LOOPED, 4)),
    (ways_of, ("graph", "name"), (LOOPED, "head")),
    (predecessors, ("graph", "name"), (LOOPED, "head")),
    (inputs_of, ("graph", "node"), (LOOPED, 7)),
    (slots_of, ("graph",), (LOOPED,)),
    (is_slot, ("graph", "thing"), (LOOPED, ("top", 0))),
    (live_nodes, ("graph",), (LOOPED,)),
    (floating_nodes, ("graph",), (LOOPED,)),
    (fixed_uses, ("graph",), (LOOPED,)),
    (graph_text, ("graph",), (LOOPED,)),
    (edges, ("graph",), (LOOPED,)),
    (shortest_path, ("graph", "one", "other"), (LOOPED, "top", "done")),
    (dominators, ("graph",), (LOOPED,)),
    (dominates, ("graph", "slot", "other"), (LOOPED, ("top", 1), ("left", 2))),
    (chain, ("graph", "slot"), (LOOPED, ("left", 2))),
    (meet, ("graph", "slots"), (LOOPED, (("left", 2), ("right", 1)))),
    (above, ("graph", "block"), (LOOPED, "done")),
    (tree_paper, ("graph",), (LOOPED,)),
    (check_tree, ("graph", "paper"), (LOOPED, tree_paper(LOOPED))),
    (frontier, ("graph", "block"), (LOOPED, "left")),
    (joins, ("graph", "blocks"), (LOOPED, ["left", "right"])),
    (join_paper, ("graph", "blocks"), (LOOPED, ["left", "right"])),
    (check_joins, ("graph", "blocks", "paper"), (LOOPED, ["left"], join_paper(LOOPED, ("left",)))),
    (loops, ("graph",), (LOOPED,)),
    (depth_of, ("graph", "block"), (LOOPED, "left")),
    (is_reducible, ("graph",), (LOOPED,)),
    (new_heads, ("graph", "region"), (LOOPED, 0)),
    (versions, ("graph", "region"), (LOOPED, 0)),
    (current, ("graph", "region", "slot"), (LOOPED, 0, ("done", 3))),
    (guards_of, ("graph", "node"), (LOOPED, 3)),
    (is_guarded, ("graph", "node", "slot"), (LOOPED, 3, ("left", 0))),
    (order_of, ("graph",), (LOOPED,)),
    (earliest, ("graph", "node"), (LOOPED, 4)),
    (latest, ("graph", "node"), (LOOPED, 6)),
    (ranges, ("graph",), (LOOPED,)),
    (is_sound, ("graph",), (LOOPED,)),
    (need_sound, ("graph",), (STEADY,)),
    (does_fit, ("graph", "placement", "node"), (STEADY, EARLY, 5)),
    (need_placement, ("graph", "placement"), (STEADY, EARLY)),
    (is_placement, ("graph", "placement"), (STEADY, EARLY)),
    (early_placement, ("graph",), (STEADY,)),
    (late_placement, ("graph",), (STEADY,)),
    (legal_placements, ("graph",), (STEADY,)),
    (count_placements, ("graph",), (STEADY,)),
    (nth_placement, ("graph", "number"), (STEADY, 40)),
    (place_number, ("graph", "placement"), (STEADY, late_placement(STEADY))),
    (range_paper, ("graph",), (STEADY,)),
    (check_ranges, ("graph", "paper"), (STEADY, range_paper(STEADY))),
    (default_profile, ("graph",), (STEADY,)),
    (held_slots, ("graph", "placement", "node"), (STEADY, EARLY, 1)),
    (cost_parts, ("graph", "placement"), (STEADY, EARLY)),
    (cost_of, ("graph", "placement"), (STEADY, EARLY)),
    (pinned_ranges, ("graph", "pins"), (STEADY, ((8, ("head", 0)),))),
    (cheapest, ("graph",), (STEADY,)),
    (pinned_cost, ("graph", "node", "slot"), (STEADY, 8, ("head", 0))),
    (toll_paper, ("graph",), (STEADY,)),
    (toll_bound, ("graph", "tolls"), (STEADY, toll_paper(STEADY)[1])),
    (check_tolls, ("graph", "paper"), (STEADY, toll_paper(STEADY))),
    (run, ("graph", "given"), (STEADY, (2, 3))),
    (trace, ("graph", "given"), (STEADY, (2, 3))),
    (run_paper, ("graph", "given"), (STEADY, (2, 3))),
    (check_run, ("graph", "paper", "given"), (STEADY, run_paper(STEADY, (2, 3)), (2, 3))),
    (run_placed, ("graph", "placement", "given"), (STEADY, EARLY, (2, 3))),
    (placed_trace, ("graph", "placement", "given"), (STEADY, EARLY, (2, 3))),
    (speculated, ("graph", "placement", "given"), (STEADY, EARLY, (2, 3))),
    (work_of, ("graph", "placement", "given"), (STEADY, EARLY, (2, 3))),
    (counts_of, ("graph", "given"), (STEADY, (2, 3))),
    (counts_of_all, ("graph", "givens"), (STEADY, [(2, 3), ()])),
    (rows_of, ("graph", "placement", "block"), (STEADY, EARLY, "done")),
    (points, ("graph", "placement"), (STEADY, EARLY)),
    (made_at, ("graph", "placement", "node"), (STEADY, EARLY, 6)),
    (live_points, ("graph", "placement", "node"), (STEADY, EARLY, 6)),
    (clash, ("graph", "placement", "one", "other"), (STEADY, EARLY, 1, 6)),
    (live_at, ("graph", "placement", "point"), (STEADY, EARLY, ("done", 3))),
    (most_live, ("graph", "placement"), (STEADY, EARLY)),
    (registers_of, ("graph", "placement"), (STEADY, EARLY)),
    (register_paper, ("graph", "placement"), (STEADY, EARLY)),
    (fewest_registers, ("graph", "placement"), (STEADY, EARLY)),
    (squeezed, ("graph", "many"), (STEADY, 5)),
    (need_registers, ("graph", "placement", "registers"), (STEADY, EARLY, registers_of(STEADY, EARLY))),
    (check_registers, ("graph", "placement", "paper"), (STEADY, EARLY, register_paper(STEADY, EARLY))),
    (
        run_in_registers, ("graph", "placement", "registers", "given"),
        (STEADY, EARLY, registers_of(STEADY, EARLY), (2, 3)),
    ),
    (code_of, ("graph", "placement"), (STEADY, EARLY)),
    (
        check_code, ("graph", "placement", "registers", "code"),
        (STEADY, EARLY, registers_of(STEADY, EARLY), code_of(STEADY, EARLY)),
    ),
    (classes, ("graph",), (STEADY,)),
    (are_alike, ("graph", "one", "other"), (STEADY, 4, 5)),
    (alike_paper, ("graph",), (STEADY,)),
    (check_alike, ("graph", "paper"), (STEADY, alike_paper(STEADY))),
    (merged, ("graph",), (STEADY,)),
    (folded, ("graph",), (STEADY,)),
    (tidied, ("graph",), (STEADY,)),
    (simple, ("graph",), (STEADY,)),
)

# Likewise of those that take no graph.
PAIRS = ((1, 2), (2, 1), (4, 1), (6, 7), (7, 6))
CODE = code_of(STEADY, EARLY)
BESIDE = (
    (is_graph, ("thing",), (STEADY,)),
    (read_graph, ("text",), (graph_text(STEADY),)),
    (are_pairs, ("thing",), (PAIRS,)),
    (are_moves, ("thing",), (PAIRS,)),
    (lone_rings, ("pairs",), (PAIRS,)),
    (fewest_moves, ("pairs",), (PAIRS,)),
    (single_moves, ("pairs",), (PAIRS,)),
    (at_once, ("pairs", "words"), (PAIRS, (5, 6, 7))),
    (one_by_one, ("moves", "words"), (PAIRS, (5, 6, 7))),
    (check_moves, ("pairs", "moves"), (PAIRS, single_moves(PAIRS))),
    (is_code, ("thing",), (CODE,)),
    (need_code, ("code",), (CODE,)),
    (run_code, ("code", "given"), (CODE, (2, 3))),
    (code_text, ("code",), (CODE,)),
    (read_code, ("text",), (code_text(CODE),)),
    (read_unit, ("text",), (unit_text(STEADY, default_profile(STEADY), ((8, ("top", 1)),), 4),)),
)

# What is made of good things alone.
OF_GOOD = (
    (
        unit_text, ("graph", "profile", "pins", "hold"),
        (STEADY, default_profile(STEADY), ((8, ("top", 1)),), 4),
    ),
)

# Functions with arguments that are handed in by their names alone, and such arguments.
PRICED = {"profile": default_profile(STEADY), "hold": 3}
NAMED = (
    (legal_placements, (STEADY,), {"most": 60}),
    (count_placements, (STEADY,), {"most": 60}),
    (cost_parts, (STEADY, EARLY), PRICED),
    (cost_of, (STEADY, EARLY), PRICED),
    (cheapest, (STEADY,), {**PRICED, "pins": ((8, ("head", 0)),), "early": True}),
    (pinned_cost, (STEADY, 8, ("head", 0)), PRICED),
    (toll_paper, (STEADY,), PRICED),
    (toll_bound, (STEADY, ()), PRICED),
    (check_tolls, (STEADY, toll_paper(STEADY, **PRICED)), PRICED),
    (run, (STEADY, (1,)), {"most": 7}),
    (trace, (STEADY, (1,)), {"most": 7}),
    (run_paper, (STEADY, (1,)), {"most": 7}),
    (check_run, (STEADY, run_paper(STEADY, (1,), most=7), (1,)), {"most": 7}),
    (run_placed, (STEADY, EARLY, (1,)), {"most": 7}),
    (placed_trace, (STEADY, EARLY, (1,)), {"most": 7}),
    (speculated, (STEADY, EARLY, (1,)), {"most": 7}),
    (work_of, (STEADY, EARLY, (1,)), {"hold": 2, "most": 7}),
    (counts_of, (STEADY, (1,)), {"most": 7}),
    (counts_of_all, (STEADY, [(1,), (2,)]), {"most": 7, "top": 3}),
    (squeezed, (STEADY, 5), {"most": 56}),
    (need_registers, (STEADY, EARLY, registers_of(STEADY, EARLY)), {"right": False}),
    (run_in_registers, (STEADY, EARLY, registers_of(STEADY, EARLY), (1,)), {"most": 7}),
    (code_of, (STEADY, EARLY), {"registers": registers_of(STEADY, EARLY)}),
    (single_moves, (PAIRS,), {"spare": 63}),
    (check_moves, (PAIRS, single_moves(PAIRS, spare=63)), {"spare": 63}),
    (run_code, (CODE, (1,)), {"most": 7}),
)
