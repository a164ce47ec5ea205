"""What a run comes to, each word being reckoned when it is asked for."""

from seaplace.needs import need_given, need_most
from seaplace.ranges import sound_chart
from seaplace.runs import result_of, run_by_demand
from seaplace.words import MOST, STEPS


def run_of(graph, given, most):
    """The run of a sound graph by these words; Unsound, BadGiven, then OutOfPlace of no such most."""
    chart = sound_chart(graph)
    need_given(given)
    need_most(most, MOST)
    return run_by_demand(chart, given, most)


def run(graph, given=(), *, most=STEPS):
    """The words put out by a run, and how it ends, a pair."""
    return result_of(run_of(graph, given, most))


def trace(graph, given=(), *, most=STEPS):
    """For each block entered its name and the words of its live phis as they were set."""
    return tuple([row[:2] for row in run_of(graph, given, most).rows])
