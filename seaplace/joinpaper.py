"""Papers that show by paths, and by what each block brings, where paths join."""

from seaplace.errors import BadPaper
from seaplace.facts import entry_of, names_in, predecessors_in, ways_in
from seaplace.graphs import need_graph
from seaplace.joins import joins_in
from seaplace.needs import need_blocks
from seaplace.parts import is_tuple_of
from seaplace.paths import is_path, share_only, two_paths
from seaplace.trees import above_in


def join_paper(graph, blocks):
    """A right join paper of these blocks."""
    need_graph(graph)
    need_blocks(graph, blocks)
    ways = ways_in(graph)
    starts = (entry_of(graph), *blocks)
    met = joins_in(graph, blocks)
    meetings = tuple([(block, *two_paths(ways, starts, block)) for block in met])
    over = above_in(graph)
    brings = tuple([(block, last_of(over[block][:-1], starts + met)) for block in unmet(graph, met)])
    return (meetings, brings)


def last_of(names, wanted):
    """The last one of these names that is wanted."""
    return [name for name in names if name in wanted][-1]


def unmet(graph, met):
    """The blocks but the entry and those at which paths meet, in order."""
    return [name for name in names_in(graph)[1:] if name not in met]


def is_meeting(ways, starts, row):
    """Whether a row tells of a block and two paths from unlike starts to it that have no other block in common."""
    if not is_tuple_of(row, 3, 3) or not isinstance(row[0], str) or row[0] not in ways:
        return False
    block, path, other = row
    for one in (path, other):
        if not is_path(ways, one) or len(one) < 2 or one[0] not in starts or one[-1] != block:
            return False
    return path[0] != other[0] and share_only(path, other, (block,))


def need_meetings(graph, starts, rows):
    """The blocks of these rows, or BadPaper of the first row that isn't right, or doesn't rise."""
    ways = ways_in(graph)
    names = names_in(graph)
    least = 0
    for number, row in enumerate(rows):
        if not is_meeting(ways, starts, row) or names.index(row[0]) < least:
            raise BadPaper(("meeting", number))
        least = names.index(row[0]) + 1
    return tuple([row[0] for row in rows])


def is_bring(names, block, row):
    """Whether a row is this block's, with some block."""
    if not is_tuple_of(row, 2, 2) or not isinstance(row[0], str) or row[0] != block:
        return False
    return isinstance(row[1], str) and row[1] in names


def need_brings(graph, starts, met, rows):
    """None, or BadPaper of the first row that isn't the next block's, or to whose block another one is brought."""
    names = names_in(graph)
    blocks = unmet(graph, met)
    for number, block in enumerate(blocks):
        if number >= len(rows) or not is_bring(names, block, rows[number]):
            raise BadPaper(("bring", number))
    if len(rows) > len(blocks):
        raise BadPaper(("bring", len(blocks)))
    brought = {block: come for block, come in rows}
    for name in starts + met:
        brought[name] = name
    ahead = predecessors_in(graph)
    for number, row in enumerate(rows):
        if not all([brought[name] == row[1] for name in ahead[row[0]]]):
            raise BadPaper(("bring", number))


def check_joins(graph, blocks, paper):
    """The joins of these blocks that a paper shows, in the order of blocks, or BadPaper."""
    need_graph(graph)
    need_blocks(graph, blocks)
    if not is_tuple_of(paper, 2, 2) or not isinstance(paper[0], tuple) or not isinstance(paper[1], tuple):
        raise BadPaper(None)
    starts = (entry_of(graph), *blocks)
    met = need_meetings(graph, starts, paper[0])
    need_brings(graph, starts, met, paper[1])
    return met
