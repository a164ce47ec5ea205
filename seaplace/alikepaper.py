"""Papers that show which nodes are alike, and why no others are."""

from seaplace.alike import CROSSED, classes_in, is_lone, kind_of, rounds_of
from seaplace.errors import BadPaper
from seaplace.parts import are_numbers, asked_by, is_number, is_tuple_of
from seaplace.ranges import sound_chart


def round_of(rounds, one, other):
    """The number of the first round in which two nodes are in unlike classes."""
    number = 0
    while rounds[number][one] == rounds[number][other]:
        number += 1
    return number


def first_unlike(parted, inputs, others):
    """The first place at which two inputs are in unlike classes."""
    return [parted[one] != parted[two] for one, two in zip(inputs, others)].index(True)


def why_unlike(chart, parted, one, other):
    """Why two nodes of one kind aren't alike, where these were the classes of the round ahead."""
    inputs = asked_by(chart.nodes[one])
    others = asked_by(chart.nodes[other])
    place = first_unlike(parted, inputs, others)
    if chart.nodes[one][0] not in CROSSED:
        return (place,)
    return (place, first_unlike(parted, inputs, (others[1], others[0])))


def alike_paper(graph):
    """The classes, and for each two of them a row that shows why they aren't one."""
    chart = sound_chart(graph)
    rounds = rounds_of(chart)
    classes = classes_in(chart)
    leasts = [nodes[0] for nodes in classes]
    rows = [[] for _ in rounds]
    for one in leasts:
        for other in leasts:
            if one < other:
                number = round_of(rounds, one, other)
                why = ()
                if number > 0:
                    why = why_unlike(chart, rounds[number - 1], one, other)
                rows[number].append((one, other, why))
    return (classes, tuple([row for told in rows for row in told]))


def is_class(chart, thing, found):
    """Whether a thing is a rising tuple of one live node or more, none of which is among those found."""
    if not isinstance(thing, tuple) or not thing or not are_numbers(thing, len(chart.nodes)):
        return False
    if not all([one < other for one, other in zip(thing, thing[1:])]):
        return False
    return all([node in chart.live and node not in found for node in thing])


def classes_told(chart, classes):
    """A dict of the live nodes and their classes' least nodes, or BadPaper of the first that is none."""
    found = {}
    least = -1
    for number, nodes in enumerate(classes):
        if not is_class(chart, nodes, found) or nodes[0] <= least:
            raise BadPaper(("classes", number))
        least = nodes[0]
        for node in nodes:
            found[node] = least
    if len(found) < len(chart.live):
        raise BadPaper(("classes", len(classes)))
    return found


def may_be_one(chart, parted, one, other):
    """Whether two nodes may be of one class, where these are the classes."""
    nodes = chart.nodes
    if is_lone(nodes, one) or is_lone(nodes, other) or kind_of(nodes[one]) != kind_of(nodes[other]):
        return False
    inputs = [parted[node] for node in asked_by(nodes[one])]
    others = [parted[node] for node in asked_by(nodes[other])]
    return inputs == others or nodes[one][0] in CROSSED and inputs == [others[1], others[0]]


def need_congruence(chart, classes, parted):
    """None, or BadPaper of the first class two nodes of which can't be of one."""
    for number, nodes in enumerate(classes):
        # Inputs match in order or crosswise: so what matches the first of a class matches all that do.
        if not all([may_be_one(chart, parted, nodes[0], node) for node in nodes[1:]]):
            raise BadPaper(("classes", number))


def is_told(parted, told, one, other):
    """Whether a row ahead tells of the classes of two nodes."""
    least = min(parted[one], parted[other])
    return (least, max(parted[one], parted[other])) in told


def is_shown(chart, parted, told, row):
    """Whether a row shows, by those ahead, that its two nodes aren't alike."""
    one, other, why = row
    nodes = chart.nodes
    unlike = is_lone(nodes, one) or is_lone(nodes, other) or kind_of(nodes[one]) != kind_of(nodes[other])
    if unlike or not why:
        return unlike and not why
    inputs = asked_by(nodes[one])
    others = asked_by(nodes[other])
    if not are_numbers(why, len(inputs)):
        return False
    if nodes[one][0] not in CROSSED:
        return len(why) == 1 and is_told(parted, told, inputs[why[0]], others[why[0]])
    if len(why) != 2 or not is_told(parted, told, inputs[why[0]], others[why[0]]):
        return False
    return is_told(parted, told, inputs[why[1]], others[1 - why[1]])


def is_least(chart, parted, thing):
    """Whether a thing is the least node of a class."""
    return is_number(thing, len(chart.nodes)) and parted.get(thing) == thing


def is_row(chart, parted, row):
    """Whether a thing is a row of two classes, by their least nodes, rising, and a tuple of why they aren't one."""
    if not is_tuple_of(row, 3, 3) or not isinstance(row[2], tuple):
        return False
    return is_least(chart, parted, row[0]) and is_least(chart, parted, row[1]) and row[0] < row[1]


def need_rows(chart, parted, many, rows):
    """None, or BadPaper of the first row that can't stand, or where one lacks of each two of so many classes."""
    told = {}
    for number, row in enumerate(rows):
        if not is_row(chart, parted, row) or row[:2] in told or not is_shown(chart, parted, told, row):
            raise BadPaper(("rows", number))
        told[row[:2]] = True
    if len(told) < many * (many - 1) // 2:
        raise BadPaper(("rows", len(rows)))


def check_alike(graph, paper):
    """How many classes there are, as a paper shows."""
    chart = sound_chart(graph)
    if not is_tuple_of(paper, 2, 2) or not isinstance(paper[0], tuple) or not isinstance(paper[1], tuple):
        raise BadPaper(None)
    classes, rows = paper
    parted = classes_told(chart, classes)
    need_congruence(chart, classes, parted)
    need_rows(chart, parted, len(classes), rows)
    return len(classes)
