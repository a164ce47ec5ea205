"""Graphs as texts, written and read."""

from seaplace.errors import BadRow
from seaplace.graphs import need_graph
from seaplace.parts import END_WORDS, INSIDE_WORDS, NODE_WORDS, text_for, told_by
from seaplace.words import words_of


def rows_for(graph):
    """The rows of a good graph's text, a list."""
    rows = []
    for name, deeds, end in graph[0]:
        rows.append("block " + name)
        for deed in deeds:
            rows.append(text_for(deed))
        rows.append(text_for(end))
    for thing in graph[1]:
        rows.append("node " + text_for(thing))
    return rows


def graph_text(graph):
    """The text of a graph; BadGraph of what is none."""
    need_graph(graph)
    return "\n".join(rows_for(graph))


def read_thing(words, firsts, row, ahead):
    """What words tell behind one of these first words, or BadRow; so many words stand ahead in that row."""
    thing, place = told_by(words, firsts)
    if place is not None:
        raise BadRow(row, place + ahead)
    return thing


def read_rows(rows, first):
    """Blocks and nodes, a pair, of rows numbered from first on, or BadRow of the first that can't stand."""
    blocks = []
    nodes = []
    deeds = []
    name = None
    for number, row in enumerate(rows, first):
        words = words_of(row)
        if words is None:
            raise BadRow(number, 0)
        if name is not None:
            thing = read_thing(words, INSIDE_WORDS, number, 0)
            if thing[0] in END_WORDS:
                blocks.append((name, tuple(deeds), thing))
                name = None
            else:
                deeds.append(thing)
        elif words[0] == "node" and blocks:
            nodes.append(read_thing(words[1:], NODE_WORDS, number, 1))
        elif nodes:
            raise BadRow(number, 1)
        else:
            name = read_thing(words, ("block",), number, 0)[1]
            deeds = []
    if name is not None:
        raise BadRow(first + len(rows), 0)
    return (tuple(blocks), tuple(nodes))


def read_graph(text):
    """The graph that a text tells; BadRow of the first row that can't stand, then BadGraph."""
    if not isinstance(text, str):
        raise BadRow(0, 0)
    graph = read_rows(text.split("\n"), 1)
    need_graph(graph)
    return graph
