"""At which points of a placement each word lives."""

from seaplace.bits import bits_of
from seaplace.errors import NoNode, OutOfPlace
from seaplace.lives import Basis, Lives, fullest, made_points
from seaplace.needs import need_block
from seaplace.parts import is_tuple_of
from seaplace.placements import need_stands
from seaplace.ranges import chart_of
from seaplace.words import is_among


def lives_of(graph, placement):
    """Where words live by a legal placement; BadGraph, then BadPlacement."""
    chart = chart_of(graph)
    stands = need_stands(chart, placement)
    return Lives(Basis(chart), stands)


def need_live(lives, node):
    """None, or NoNode of what is no live node."""
    chart = lives.basis.chart
    if not is_among(node, 0, len(chart.nodes) - 1) or node not in chart.live:
        raise NoNode(node)


def is_point(lives, thing):
    """Whether a thing is a point."""
    if not is_tuple_of(thing, 2, 2) or not isinstance(thing[0], str) or thing[0] not in lives.rows:
        return False
    return is_among(thing[1], 0, len(lives.rows[thing[0]]))


def points_in(lives):
    """All points, a list, blocks in their order."""
    return [(name, place) for name in lives.basis.names for place in range(len(lives.rows[name]) + 1)]


def rows_of(graph, placement, block):
    """The rows of a block: slot by slot the nodes that stand there, in order, then the slot's deed."""
    lives = lives_of(graph, placement)
    need_block(graph, block)
    return lives.rows[block]


def points(graph, placement):
    """All points, blocks in their order, and how many of their rows stand ahead."""
    return tuple(points_in(lives_of(graph, placement)))


def made_at(graph, placement, node):
    """The point at which a live node is made."""
    lives = lives_of(graph, placement)
    need_live(lives, node)
    return made_points(lives)[node]


def live_points(graph, placement, node):
    """The points at which a live node is live."""
    lives = lives_of(graph, placement)
    need_live(lives, node)
    return tuple([(name, place) for name, place in points_in(lives) if lives.live[name][place] >> node & 1])


def live_at(graph, placement, point):
    """The nodes, rising, that are live at a point."""
    lives = lives_of(graph, placement)
    if not is_point(lives, point):
        raise OutOfPlace("this is no point")
    return tuple(bits_of(lives.live[point[0]][point[1]]))


def clash(graph, placement, one, other):
    """Whether two unlike live nodes are live at one point."""
    lives = lives_of(graph, placement)
    need_live(lives, one)
    need_live(lives, other)
    both = 1 << one | 1 << other
    return one != other and any([lives.live[name][place] & both == both for name, place in points_in(lives)])


def most_live(graph, placement):
    """How many nodes are live at the point at which most are."""
    return fullest(lives_of(graph, placement))[1]
