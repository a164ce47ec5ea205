"""Code for a placement by registers, and other code that is as good."""

from seaplace.charts import phi_pairs
from seaplace.coderun import need_code
from seaplace.errors import BadCode
from seaplace.facts import ends_in
from seaplace.liveness import lives_of
from seaplace.moves import differing, moves_for, moving
from seaplace.parts import asked_by
from seaplace.registercheck import need_right
from seaplace.registers import REGISTERS, numbers_for


class Plan:
    """What rows are due by a placement and a dict of the live nodes' registers."""

    def __init__(self, lives, numbers):
        chart = lives.basis.chart
        self.chart = chart
        self.names = lives.basis.names
        self.rows = lives.rows
        self.numbers = numbers
        self.ends = ends_in(chart.graph)
        self.edges = phi_pairs(chart)
        taken = sorted(numbers.values())
        self.spares = [number for number in range(REGISTERS) if number not in taken]


class Walk:
    """A way through code from row to row: the one that is next, the jumps met, and how many moves there were."""

    def __init__(self, code, plan):
        self.code = code
        self.plan = plan
        self.place = 0
        self.starts = {}
        self.jumps = []
        self.moves = 0


def held_in(plan, nodes):
    """The registers, a tuple, of these nodes."""
    return tuple([plan.numbers[node] for node in nodes])


def node_row(plan, node):
    """The row that reckons a node."""
    thing = plan.chart.nodes[node]
    own = plan.numbers[node]
    if thing[0] in ("word", "given", "load"):
        return (thing[0], own, thing[1], *held_in(plan, asked_by(thing)))
    return (thing[0], own, *held_in(plan, asked_by(thing)))


def deed_row(plan, name, place):
    """The row of a deed."""
    deed = plan.chart.deeds[name][place]
    held = held_in(plan, asked_by(deed))
    if deed[0] == "store":
        return ("store", deed[1], *held)
    if deed[0] == "check":
        return ("check", *held, name, place)
    return (deed[0], *held)


def body_of(plan, name):
    """The rows of a block, a list, up to its END."""
    found = [("enter", name)]
    if name == plan.names[0]:
        for node in plan.chart.live:
            if plan.chart.nodes[node][0] == "given":
                found.append(node_row(plan, node))
    for kind, number in plan.rows[name]:
        if kind == "node":
            found.append(node_row(plan, number))
        else:
            found.append(deed_row(plan, name, number))
    return found


def pairs_on(plan, name, way):
    """The pairs of registers, a tuple, that are due on an edge."""
    return tuple([held_in(plan, pair) for pair in plan.edges[(name, way)]])


def moved_on(plan, name, way):
    """The fewest moves, a list of rows, that do what is due on an edge."""
    return [("move", one, other) for one, other in moves_for(pairs_on(plan, name, way), plan.spares[0])]


def end_of(plan, name, first):
    """The rows, a list, numbered from first on, of a block's END and its moves; blocks are called by their names."""
    end = plan.ends[name]
    held = held_in(plan, asked_by(end))
    if end[0] == "return":
        return [("return", *held)]
    if end[0] == "goto":
        return moved_on(plan, name, end[1]) + [("goto", end[1])]
    ways = []
    behind = []
    for way in end[2:]:
        moves = moved_on(plan, name, way)
        if moves:
            ways.append(first + 1 + len(behind))
            behind.extend(moves + [("goto", way)])
        else:
            ways.append(way)
    return [("if", *held, *ways)] + behind


def resolved(row, starts):
    """A row that calls blocks by their first rows, in the place of their names, where it jumps."""
    if row[0] == "goto":
        return ("goto", starts[row[1]])
    if row[0] == "if":
        return ("if", row[1], *[starts.get(to, to) for to in row[2:]])
    return row


def code_of(graph, placement, *, registers=None):
    """The code of a placement by right registers, or by those with the fewest unlike numbers."""
    lives = lives_of(graph, placement)
    if registers is None:
        registers = numbers_for(lives)
    need_right(lives, registers, True)
    plan = Plan(lives, dict(registers))
    found = []
    starts = {}
    for name in plan.names:
        starts[name] = len(found)
        found.extend(body_of(plan, name))
        found.extend(end_of(plan, name, len(found)))
    return tuple([resolved(row, starts) for row in found])


def take_row(walk, due):
    """Goes on behind a row that begins with what is due, or BadCode."""
    if walk.place == len(walk.code):
        raise BadCode(walk.place)
    row = walk.code[walk.place]
    if row[:len(due)] != due:
        raise BadCode(walk.place)
    walk.place += 1


def take_jump(walk, due, ways):
    """Goes on behind a row that jumps, wherever to: a list, which may be filled behind it, tells what is due."""
    walk.jumps.append((walk.place, ways))
    take_row(walk, due)


def take_moves(walk, pairs):
    """Goes on behind moves that do pairs, or BadCode of the first one, or of where it should stand."""
    first = walk.place
    moves = []
    for row in walk.code[first:]:
        if row[0] != "move":
            break
        moves.append(row[1:])
    if differing(pairs, moves, walk.plan.spares) is not None:
        raise BadCode(first)
    walk.place += len(moves)
    walk.moves += len(moves)


def take_end(walk, name):
    """Goes on behind a block's END and its moves, or BadCode."""
    plan = walk.plan
    end = plan.ends[name]
    held = held_in(plan, asked_by(end))
    if end[0] == "return":
        take_row(walk, ("return", *held))
    elif end[0] == "goto":
        take_moves(walk, pairs_on(plan, name, end[1]))
        take_jump(walk, ("goto",), [end[1]])
    else:
        ways = []
        take_jump(walk, ("if", *held), ways)
        for way in end[2:]:
            pairs = pairs_on(plan, name, way)
            if moving(pairs):
                ways.append(walk.place)
                take_moves(walk, pairs)
                take_jump(walk, ("goto",), [way])
            else:
                ways.append(way)


def check_code(graph, placement, registers, code):
    """How many moves there are in code that is as good as that of a placement by these registers, or BadCode."""
    lives = lives_of(graph, placement)
    need_right(lives, registers, True)
    need_code(code)
    walk = Walk(code, Plan(lives, dict(registers)))
    for name in walk.plan.names:
        walk.starts[name] = walk.place
        for row in body_of(walk.plan, name):
            take_row(walk, row)
        take_end(walk, name)
    if walk.place < len(code):
        raise BadCode(walk.place)
    for number, ways in walk.jumps:
        row = code[number]
        if row != resolved((*row[:len(row) - len(ways)], *ways), walk.starts):
            raise BadCode(number)
    return walk.moves
