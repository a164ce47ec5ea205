"""Papers that show by paths alone which block dominates which."""

from seaplace.errors import BadPaper
from seaplace.facts import names_in, predecessors_in, ways_in
from seaplace.graphs import need_graph
from seaplace.parts import is_tuple_of
from seaplace.paths import is_path, share_only, two_ways
from seaplace.trees import tree_in


def tree_paper(graph):
    """A right tree paper, a list."""
    need_graph(graph)
    ways = ways_in(graph)
    return [(block, dominator, *two_ways(ways, dominator, block)) for block, dominator in tree_in(graph).items()]


def is_tree_row(ways, block, row):
    """Whether a row is this block's, with two paths from its dominator that have no other block in common."""
    if not is_tuple_of(row, 4, 4) or not isinstance(row[0], str) or row[0] != block:
        return False
    dominator, path, other = row[1:]
    if not isinstance(dominator, str) or dominator not in ways or dominator == block:
        return False
    if not is_path(ways, path) or not is_path(ways, other):
        return False
    if path[0] != dominator or other[0] != dominator or path[-1] != block or other[-1] != block:
        return False
    return share_only(path, other, (dominator, block))


def comes_to(told, name, goal):
    """Whether a block comes to the goal, by none or more steps to told dominators."""
    # Told ones may lead around in a ring: behind so many steps nothing new comes.
    for _ in range(len(told) + 1):
        if name == goal:
            return True
        if name not in told:
            return False
        name = told[name]
    return False


def check_tree(graph, paper):
    """The dict of the told dominators, in the order of blocks, or BadPaper of the first row that isn't right."""
    need_graph(graph)
    if not isinstance(paper, (list, tuple)):
        raise BadPaper(None)
    ways = ways_in(graph)
    blocks = names_in(graph)[1:]
    for place, block in enumerate(blocks):
        if place >= len(paper) or not is_tree_row(ways, block, paper[place]):
            raise BadPaper(place)
    if len(paper) > len(blocks):
        raise BadPaper(len(blocks))
    told = {row[0]: row[1] for row in paper}
    ahead = predecessors_in(graph)
    for place, block in enumerate(blocks):
        if not all([comes_to(told, name, told[block]) for name in ahead[block]]):
            raise BadPaper(place)
    return told
