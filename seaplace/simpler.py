"""Graphs made simpler, of which each run comes to the same."""

from seaplace.alike import least_alike
from seaplace.charts import Chart
from seaplace.facts import live_in
from seaplace.operations import reckoned
from seaplace.parts import asked_by, renamed
from seaplace.ranges import sound_chart


def blocks_by(graph, names):
    """The blocks of a graph, a tuple, in which deeds and ENDs ask for other nodes, as a list tells."""
    return tuple([
        (name, tuple([renamed(deed, names) for deed in deeds]), renamed(end, names)) for name, deeds, end in graph[0]
    ])


def asked_instead(graph, live, names):
    """A graph in which live nodes, deeds and ENDs ask for other nodes, as a list tells."""
    nodes = list(graph[1])
    for node in live:
        nodes[node] = renamed(nodes[node], names)
    return (blocks_by(graph, names), tuple(nodes))


def merged_in(chart):
    """A sound graph in which the least of alike nodes is asked for in the place of all."""
    names = list(range(len(chart.nodes)))
    for node, least in least_alike(chart).items():
        names[node] = least
    return asked_instead(chart.graph, chart.live, names)


def word_reckoned(nodes, node):
    """The word that a node makes of its inputs, where all of them are words; None where it can't be told."""
    thing = nodes[node]
    inputs = [nodes[one] for one in asked_by(thing)]
    if thing[0] in ("phi", "load") or not inputs or not all([one[0] == "word" for one in inputs]):
        return None
    words = [one[1] for one in inputs]
    if thing[0] in ("div", "rest") and words[1] == 0:
        return None
    return reckoned(thing[0], words)


def passed_on(nodes, node):
    """The node whose word a pick or a phi has, wherever it is asked for; None where it can't be told."""
    thing = nodes[node]
    if thing[0] == "pick" and nodes[thing[1]][0] == "word":
        if nodes[thing[1]][1] != 0:
            return thing[2]
        return thing[3]
    if thing[0] == "phi":
        others = sorted(set([one for one in thing[2] if one != node]))
        if len(others) == 1:
            return others[0]
    return None


def folded_once(graph):
    """A graph in which one live node, the least that can be, is made simpler; None where none can be."""
    nodes = graph[1]
    live = live_in(graph)
    for node in live:
        word = word_reckoned(nodes, node)
        if word is not None:
            return (graph[0], (*nodes[:node], ("word", word), *nodes[node + 1:]))
        other = passed_on(nodes, node)
        if other is not None:
            names = list(range(len(nodes)))
            names[node] = other
            return asked_instead(graph, live, names)
    return None


def folded_in(graph):
    """A graph in which no live node can be made simpler."""
    after = folded_once(graph)
    while after is not None:
        graph = after
        after = folded_once(graph)
    return graph


def places_in(graph):
    """A dict of the live nodes and their places among these."""
    return {node: place for place, node in enumerate(live_in(graph))}


def tidied_in(graph):
    """A graph of the live nodes alone."""
    places = places_in(graph)
    return (blocks_by(graph, places), tuple([renamed(graph[1][node], places) for node in places]))


def merged(graph):
    """The graph in which the least of alike nodes is asked for in the place of all."""
    return merged_in(sound_chart(graph))


def folded(graph):
    """The graph in which again and again a node is made a word, or another one stands in its place."""
    return folded_in(sound_chart(graph).graph)


def tidied(graph):
    """The graph of the live nodes alone, called by their new places."""
    return tidied_in(sound_chart(graph).graph)


def simple(graph):
    """The graph folded, merged and tidied again and again till that changes nothing more."""
    after = sound_chart(graph).graph
    ahead = None
    while after != ahead:
        ahead = after
        after = tidied_in(merged_in(Chart(folded_in(ahead))))
    return after
