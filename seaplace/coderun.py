"""Code, and what a run of it comes to."""

from seaplace.coderows import fault_of_code
from seaplace.errors import BadCode
from seaplace.needs import need_given, need_most
from seaplace.registers import REGISTERS
from seaplace.words import CELLS, GIVENS, MOST, REGIONS, STEPS, WORD


class CodeRun:
    """A run of code: its registers and memory, the words put out, and how it ended, None as long as it goes on."""

    def __init__(self, given):
        self.words = [0] * REGISTERS
        self.cells = [[0] * CELLS for _ in range(REGIONS)]
        self.given = given + (0,) * (GIVENS - len(given))
        self.outs = []
        self.end = None


# Each of these does a row, its number told behind its parts; what it tells is whether the run ends with that.


def do_word(run, row):
    words = run.words
    words[row[1]] = row[2]
    return False


def do_given(run, row):
    words = run.words
    words[row[1]] = run.given[row[2]]
    return False


def do_add(run, row):
    words = run.words
    words[row[1]] = (words[row[2]] + words[row[3]]) % WORD
    return False


def do_sub(run, row):
    words = run.words
    words[row[1]] = (words[row[2]] - words[row[3]]) % WORD
    return False


def do_mul(run, row):
    words = run.words
    words[row[1]] = words[row[2]] * words[row[3]] % WORD
    return False


def do_and(run, row):
    words = run.words
    words[row[1]] = words[row[2]] & words[row[3]]
    return False


def do_xor(run, row):
    words = run.words
    words[row[1]] = words[row[2]] ^ words[row[3]]
    return False


def do_less(run, row):
    words = run.words
    words[row[1]] = int(words[row[2]] < words[row[3]])
    return False


def do_same(run, row):
    words = run.words
    words[row[1]] = int(words[row[2]] == words[row[3]])
    return False


def do_div(run, row):
    words = run.words
    if words[row[3]] == 0:
        run.end = ("divided", row[4])
        return True
    words[row[1]] = words[row[2]] // words[row[3]]
    return False


def do_rest(run, row):
    words = run.words
    if words[row[3]] == 0:
        run.end = ("divided", row[4])
        return True
    words[row[1]] = words[row[2]] % words[row[3]]
    return False


def do_pick(run, row):
    words = run.words
    if words[row[2]] != 0:
        words[row[1]] = words[row[3]]
    else:
        words[row[1]] = words[row[4]]
    return False


def do_load(run, row):
    words = run.words
    cells = run.cells[row[2]]
    words[row[1]] = cells[words[row[3]] % CELLS]
    return False


def do_store(run, row):
    words = run.words
    cells = run.cells[row[1]]
    cells[words[row[2]] % CELLS] = words[row[3]]
    return False


def do_out(run, row):
    run.outs.append(run.words[row[1]])
    return False


def do_check(run, row):
    if run.words[row[1]] == 0:
        run.end = ("fault", row[2], row[3])
        return True
    return False


def do_move(run, row):
    words = run.words
    words[row[1]] = words[row[2]]
    return False


def do_return(run, row):
    run.end = ("returned", run.words[row[1]])
    return True


# All rows but those that jump, or enter a block.
ACTIONS = {
    "word": do_word, "given": do_given, "add": do_add, "sub": do_sub, "mul": do_mul, "and": do_and, "xor": do_xor,
    "less": do_less, "same": do_same, "div": do_div, "rest": do_rest, "pick": do_pick, "load": do_load,
    "store": do_store, "out": do_out, "check": do_check, "move": do_move, "return": do_return,
}


def steps_of(code):
    """A list, by rows, of how each is done and its parts, or None of a row that jumps or enters a block."""
    found = []
    for number, row in enumerate(code):
        if row[0] in ACTIONS:
            found.append((ACTIONS[row[0]], (*row, number)))
        else:
            found.append(None)
    return found


def stops_of(steps):
    """A list, by rows, of the first row from each on that jumps or enters a block, or of the end."""
    stop = len(steps)
    found = [stop]
    for number in range(len(steps) - 1, -1, -1):
        if steps[number] is None:
            stop = number
        found.append(stop)
    found.reverse()
    return found


def row_behind(run, code, number):
    """The row to which a row that jumps or enters a block leads on."""
    row = code[number]
    if row[0] == "goto":
        return row[1]
    if row[0] == "enter":
        return number + 1
    if run.words[row[1]] != 0:
        return row[2]
    return row[3]


def run_rows(run, code, most):
    """Lets a run of code go on from row 0 till it ends; it enters at most so many blocks."""
    steps = steps_of(code)
    stops = stops_of(steps)
    number = 0
    entered = 0
    while run.end is None:
        stop = stops[number]
        for action, row in steps[number:stop]:
            if action(run, row):
                return
        if stop == len(code):
            run.end = ("ended",)
            return
        if code[stop][0] == "enter":
            if entered == most:
                run.end = ("stopped",)
                return
            entered += 1
        number = row_behind(run, code, stop)


def is_code(thing):
    """Whether a thing is a tuple of rows of code."""
    return fault_of_code(thing) is None


def need_code(code):
    """None, or BadCode of the first row that can't stand, or of what is no code at all."""
    fault = fault_of_code(code)
    if fault is not None:
        raise BadCode(fault[0])


def run_code(code, given=(), *, most=STEPS):
    """The words put out by a run of code, and how it ends, a pair."""
    need_code(code)
    need_given(given)
    need_most(most, MOST)
    run = CodeRun(given)
    run_rows(run, code, most)
    return (tuple(run.outs), run.end)
