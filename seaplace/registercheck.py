"""Whether registers are right, and papers that show how few are enough."""

from seaplace.bits import first_bit
from seaplace.errors import BadPaper
from seaplace.lives import how_many
from seaplace.liveness import is_point, lives_of
from seaplace.parts import is_number, is_tuple_of
from seaplace.registers import REGISTERS
from seaplace.words import is_whole


def is_row_of(row, node):
    """Whether a thing is a pair of this node and a register's number."""
    return is_tuple_of(row, 2, 2) and is_whole(row[0]) and row[0] == node and is_number(row[1], REGISTERS)


def need_rows(chart, registers):
    """None, or BadPaper of no tuple, or of the first row that isn't that of the live node that is due."""
    if not isinstance(registers, tuple):
        raise BadPaper(None)
    for number, node in enumerate(chart.live):
        if number >= len(registers) or not is_row_of(registers[number], node):
            raise BadPaper(("row", number))
    if len(registers) > len(chart.live):
        raise BadPaper(("row", len(chart.live)))


def sharing(registers):
    """A dict of each number and the nodes that have it, as bits."""
    found = {}
    for node, number in registers:
        found[number] = found.get(number, 0) | 1 << node
    return found


def clashing(lives, registers):
    """The least node that has the number of a lesser one with which it clashes, or None."""
    marks = 0
    for one in sharing(registers).values():
        for rows in lives.live.values():
            for live in rows:
                both = one & live
                # Of those that live here and share a number all but the least clash with a lesser one.
                marks = marks | both & (both - 1)
    return first_bit(marks)


def need_right(lives, registers, right):
    """None, or BadPaper of what are no registers, or no right ones where these are asked for."""
    need_rows(lives.basis.chart, registers)
    if right is not False:
        node = clashing(lives, registers)
        if node is not None:
            raise BadPaper(("clash", node))


def need_registers(graph, placement, registers, *, right=True):
    """None, or BadPaper of what are no registers; of such as aren't right only if right isn't False."""
    need_right(lives_of(graph, placement), registers, right)


def check_registers(graph, placement, paper):
    """How many unlike numbers right registers have at least, as a paper shows."""
    lives = lives_of(graph, placement)
    if not is_tuple_of(paper, 2, 2) or not isinstance(paper[0], tuple) or not is_point(lives, paper[1]):
        raise BadPaper(None)
    registers, point = paper
    need_right(lives, registers, True)
    many = len(sharing(registers))
    more = how_many(lives.live[point[0]][point[1]]) - many
    if more != 0:
        raise BadPaper(("point", more))
    return many
