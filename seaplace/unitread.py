"""Units read from texts."""

from seaplace.costs import MOST_COUNT, MOST_HOLD
from seaplace.errors import BadProfile, BadRow
from seaplace.facts import names_in
from seaplace.graphs import need_graph
from seaplace.graphtext import read_rows, read_thing
from seaplace.unit import Unit
from seaplace.words import MOST_BLOCKS, is_word, number_of, words_of


def words_at(rows, number):
    """The words of a row, numbered from 1; BadRow of word 0 where it is none, or isn't there."""
    if number > len(rows):
        raise BadRow(number, 0)
    words = words_of(rows[number - 1])
    if words is None:
        raise BadRow(number, 0)
    return words


def numbers_behind(words, number, many, most):
    """The numbers, a list, behind a row's first word: one to so many, each from 0 to most; BadRow."""
    found = []
    for place, word in enumerate(words[1:], 2):
        if place > many + 1 or not is_word(number_of(word), most=most):
            raise BadRow(number, place)
        found.append(number_of(word))
    if not found:
        raise BadRow(number, 2)
    return found


def read_head(rows, number, first, many, most):
    """The numbers, a list, of a row that begins with this word; BadRow."""
    words = words_at(rows, number)
    if words[0] != first:
        raise BadRow(number, 1)
    return numbers_behind(words, number, many, most)


def read_pin(words, number):
    """The pin that the words of a row tell; BadRow."""
    _, node, name, place = read_thing(words, ("pin",), number, 0)
    return (node, (name, place))


def read_unit(text):
    """The unit that a text tells; BadRow, BadGraph, BadProfile where counts lack, then as a new unit of it is."""
    if not isinstance(text, str):
        raise BadRow(0, 0)
    rows = text.split("\n")
    hold = read_head(rows, 1, "unit", 1, MOST_HOLD)[0]
    counts = read_head(rows, 2, "counts", MOST_BLOCKS, MOST_COUNT)
    pins = []
    number = 3
    words = words_at(rows, number)
    while words[0] == "pin":
        pins.append(read_pin(words, number))
        number += 1
        words = words_at(rows, number)
    graph = read_rows(rows[number - 1:], number)
    need_graph(graph)
    names = names_in(graph)
    if len(names) != len(counts):
        raise BadProfile()
    profile = {name: count for name, count in zip(names, counts)}
    return Unit(graph, profile=profile, pins=tuple(pins), hold=hold)
