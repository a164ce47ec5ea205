"""What a machine does in which words stand in so many registers alone."""

from seaplace.needs import need_given, need_most
from seaplace.placedrun import Machine
from seaplace.placements import need_stands
from seaplace.ranges import chart_of
from seaplace.registercheck import need_rows
from seaplace.runs import result_of, run_on
from seaplace.words import MOST, STEPS


def run_in_registers(graph, placement, registers, given=(), *, most=STEPS):
    """The words put out by a run of a placement in registers, right ones or others, and how it ends, a pair."""
    chart = chart_of(graph)
    stands = need_stands(chart, placement)
    need_rows(chart, registers)
    need_given(given)
    need_most(most, MOST)
    machine = Machine(chart, given, stands, dict(registers))
    run_on(machine, most)
    return result_of(machine)
