"""Papers that show, visit by visit, what a run comes to."""

from seaplace.demand import run_of
from seaplace.errors import BadPaper
from seaplace.parts import is_tuple_of
from seaplace.runs import result_of
from seaplace.words import STEPS, is_whole


def paper_of(done):
    """The paper of a run that is done."""
    return tuple([(name, phis, tuple(sorted(words.items())), cells) for name, phis, words, cells in done.rows])


def is_just(thing, due):
    """Whether a thing is what is due: numbers, texts, and tuples of such, truths being none."""
    if isinstance(due, tuple):
        return is_tuple_of(thing, len(due), len(due)) and all([is_just(one, other) for one, other in zip(thing, due)])
    if isinstance(due, str):
        return isinstance(thing, str) and thing == due
    return is_whole(thing) and thing == due


def run_paper(graph, given=(), *, most=STEPS):
    """The paper of a run."""
    return paper_of(run_of(graph, given, most))


def check_run(graph, paper, given=(), *, most=STEPS):
    """What a run comes to, as its paper shows; BadPaper of no tuple, or of the first row that isn't so or lacks."""
    done = run_of(graph, given, most)
    if not isinstance(paper, tuple):
        raise BadPaper(None)
    due = paper_of(done)
    for number, row in enumerate(paper):
        if number >= len(due) or not is_just(row, due[number]):
            raise BadPaper(number)
    if len(paper) < len(due):
        raise BadPaper(len(paper))
    return result_of(done)
