"""Registers, as few as can be, for all words of a placement."""

from seaplace.errors import OutOfPlace
from seaplace.liveness import lives_of
from seaplace.lives import Basis, Lives, fullest, made_points
from seaplace.needs import need_most
from seaplace.placements import all_stands, placement_of
from seaplace.ranges import sound_chart
from seaplace.words import MOST, is_among

REGISTERS = 64
TRIED = 300


def first_free(taken):
    """The least number that isn't taken."""
    number = 0
    while number in taken:
        number += 1
    return number


def numbers_for(lives):
    """Right registers with the fewest unlike numbers."""
    found = {}
    # Of two that clash one lives where the other is made: so all that matter are live there, and numbered already.
    for node, (name, place) in made_points(lives).items():
        marks = lives.live[name][place]
        found[node] = first_free([number for one, number in found.items() if marks >> one & 1])
    return tuple(sorted(found.items()))


def registers_of(graph, placement):
    """A number for each live node, rising, as few unlike ones as can be, so that no two that clash have the same."""
    return numbers_for(lives_of(graph, placement))


def register_paper(graph, placement):
    """Right registers, and a point at which as many nodes are live as these have unlike numbers."""
    lives = lives_of(graph, placement)
    return (numbers_for(lives), fullest(lives)[0])


def fewest_registers(graph, placement):
    """How many unlike numbers right registers have at least."""
    return fullest(lives_of(graph, placement))[1]


def squeezed(graph, many, *, most=TRIED):
    """The first legal placement for which so many registers are enough, or None; TooGreat of more than most."""
    chart = sound_chart(graph)
    if not is_among(many, 0, REGISTERS):
        raise OutOfPlace("this is no number of registers")
    need_most(most, MOST)
    basis = Basis(chart)
    for stands in all_stands(chart, most):
        if fullest(Lives(basis, stands))[1] <= many:
            return placement_of(chart, stands)
    return None
