"""Things of all kinds, and calls of every function that takes graphs."""

from making import LOOPED

from seaplace.dominators import above, chain, dominates, dominators, meet
from seaplace.flow import edges, shortest_path
from seaplace.graphs import (
    block_of, fixed_uses, floating_nodes, inputs_of, is_slot, live_nodes, names_of, need_graph, node_of, predecessors,
    slots_of, ways_of,
)
from seaplace.graphtext import graph_text
from seaplace.guards import guards_of, is_guarded
from seaplace.joinpaper import check_joins, join_paper
from seaplace.joins import frontier, joins
from seaplace.loops import depth_of, is_reducible, loops
from seaplace.treepaper import check_tree, tree_paper
from seaplace.versions import current, new_heads, versions


def deep(many=100000):
    """A tuple within a tuple, and so on."""
    thing = ()
    for _ in range(many):
        thing = (thing,)
    return thing


def odd_things():
    """Things none of which is a graph, a block's name of LOOPED, one of its slots, or a list or tuple of such."""
    return [
        None, True, False, -1, 10 ** 5000, -(10 ** 5000), "", "nowhere", "Top", "top ", "a b", b"top", {}, {"top": 1},
        {"top"}, (None,), ("top", True), ("top", -1), ("top", 10 ** 5000), ("nowhere", 0), ["top", 0], ("top",),
        ("top", 0, 0), ([], []), ((), ()), [[]], deep(), [deep()], (deep(), deep()), (("top", (), ("return", 0)),),
        ((("top", (), ("return", True)),), (("word", 1),)), object(), frozenset(("top",)), range(3), len, int,
    ]


# Each function, good things to hand in, and by what names.
CALLS = (
    (need_graph, ("graph",), (LOOPED,)),
    (names_of, ("graph",), (LOOPED,)),
    (block_of, ("graph", "name"), (LOOPED, "head")),
    (node_of, ("graph", "node"), (LOOPED, 4)),
    (ways_of, ("graph", "name"), (LOOPED, "head")),
    (predecessors, ("graph", "name"), (LOOPED, "head")),
    (inputs_of, ("graph", "node"), (LOOPED, 7)),
    (slots_of, ("graph",), (LOOPED,)),
    (is_slot, ("graph", "thing"), (LOOPED, ("top", 0))),
    (live_nodes, ("graph",), (LOOPED,)),
    (floating_nodes, ("graph",), (LOOPED,)),
    (fixed_uses, ("graph",), (LOOPED,)),
    (graph_text, ("graph",), (LOOPED,)),
    (edges, ("graph",), (LOOPED,)),
    (shortest_path, ("graph", "one", "other"), (LOOPED, "top", "done")),
    (dominators, ("graph",), (LOOPED,)),
    (dominates, ("graph", "slot", "other"), (LOOPED, ("top", 1), ("left", 2))),
    (chain, ("graph", "slot"), (LOOPED, ("left", 2))),
    (meet, ("graph", "slots"), (LOOPED, (("left", 2), ("right", 1)))),
    (above, ("graph", "block"), (LOOPED, "done")),
    (tree_paper, ("graph",), (LOOPED,)),
    (check_tree, ("graph", "paper"), (LOOPED, tree_paper(LOOPED))),
    (frontier, ("graph", "block"), (LOOPED, "left")),
    (joins, ("graph", "blocks"), (LOOPED, ["left", "right"])),
    (join_paper, ("graph", "blocks"), (LOOPED, ["left", "right"])),
    (check_joins, ("graph", "blocks", "paper"), (LOOPED, ["left"], join_paper(LOOPED, ("left",)))),
    (loops, ("graph",), (LOOPED,)),
    (depth_of, ("graph", "block"), (LOOPED, "left")),
    (is_reducible, ("graph",), (LOOPED,)),
    (new_heads, ("graph", "region"), (LOOPED, 0)),
    (versions, ("graph", "region"), (LOOPED, 0)),
    (current, ("graph", "region", "slot"), (LOOPED, 0, ("done", 3))),
    (guards_of, ("graph", "node"), (LOOPED, 3)),
    (is_guarded, ("graph", "node", "slot"), (LOOPED, 3, ("left", 0))),
)
