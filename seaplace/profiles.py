"""How often runs enter each block."""

from seaplace.demand import run_of
from seaplace.errors import BadGiven, OutOfPlace
from seaplace.facts import names_in
from seaplace.needs import need_given, need_most
from seaplace.ranges import sound_chart
from seaplace.runs import run_by_demand
from seaplace.words import MOST, STEPS, is_word

TOP = 999


def add_counts(counts, done):
    """Adds to a dict of counts how often a run entered each block."""
    for row in done.rows:
        counts[row[0]] += 1


def counts_of(graph, given=(), *, most=STEPS):
    """A dict of the blocks' names, in order, and how often a run entered each."""
    done = run_of(graph, given, most)
    counts = {name: 0 for name in names_in(graph)}
    add_counts(counts, done)
    return counts


def counts_of_all(graph, givens, *, most=STEPS, top=TOP):
    """A dict of the blocks' names, in order, and how often the runs by all these words entered each, at most top."""
    chart = sound_chart(graph)
    if not isinstance(givens, (list, tuple)):
        raise BadGiven(None)
    for given in givens:
        need_given(given)
    need_most(most, MOST)
    if not is_word(top, most=TOP):
        raise OutOfPlace("this is no number that counts may be cut at")
    counts = {name: 0 for name in names_in(graph)}
    for given in givens:
        add_counts(counts, run_by_demand(chart, given, most))
    return {name: min(counts[name], top) for name in counts}
