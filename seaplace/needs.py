"""Refusals of what is handed in beside a good graph."""

from seaplace.errors import BadGiven, NoBlock, NoNode, OutOfPlace
from seaplace.facts import deeds_in, has_slot, names_in
from seaplace.parts import is_tuple_of
from seaplace.words import GIVENS, REGIONS, is_among, is_word


def need_block(graph, name):
    """None, or NoBlock of what is no block's name."""
    if not isinstance(name, str) or name not in names_in(graph):
        raise NoBlock(name)


def need_blocks(graph, things):
    """None, or OutOfPlace of no list or tuple, NoBlock of the first thing in it that is no block's name."""
    if not isinstance(things, (list, tuple)):
        raise OutOfPlace("blocks are told as a list or tuple of names")
    for name in things:
        need_block(graph, name)


def need_node(graph, node):
    """None, or NoNode of what is no node's number."""
    if not is_among(node, 0, len(graph[1]) - 1):
        raise NoNode(node)


def need_slot(graph, thing):
    """None, or OutOfPlace of what is no slot."""
    if not has_slot(deeds_in(graph), thing):
        raise OutOfPlace("this is no slot of the graph")


def need_slots(graph, things):
    """None, or OutOfPlace of what is no tuple of one slot or more."""
    if not isinstance(things, tuple) or not things:
        raise OutOfPlace("slots are told as a tuple of one or more")
    for thing in things:
        need_slot(graph, thing)


def need_region(thing):
    """None, or OutOfPlace of what is no region."""
    if not is_among(thing, 0, REGIONS - 1):
        raise OutOfPlace("this is no region")


def need_most(most, greatest):
    """None, or OutOfPlace of what is no whole number from 1 to the greatest."""
    if not is_among(most, 1, greatest):
        raise OutOfPlace("this is no number of so many from 1 on")


def need_given(given):
    """None, or BadGiven of no tuple of at most four, or of the first thing in it that is no word."""
    if not is_tuple_of(given, 0, GIVENS):
        raise BadGiven(None)
    for number, word in enumerate(given):
        if not is_word(word):
            raise BadGiven(number)
