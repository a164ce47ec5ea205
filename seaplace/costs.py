"""What a placement costs by a profile: words that are reckoned, and words that are held."""

from seaplace.bits import bits_of
from seaplace.charts import reach_of
from seaplace.errors import BadProfile, NoNode, OutOfPlace
from seaplace.facts import names_in
from seaplace.loops import loops_in
from seaplace.placements import need_stands
from seaplace.ranges import sound_chart
from seaplace.words import HOLD, is_among

COSTS = {
    "word": 1, "add": 1, "sub": 1, "and": 1, "xor": 1, "less": 1, "same": 1, "pick": 1, "mul": 3, "load": 4,
    "div": 9, "rest": 9,
}
MOST_COUNT = 999
MOST_HOLD = 9


def default_counts(graph):
    """A dict of the blocks' names, in order, and 8 to the depth of each, cut at the greatest count."""
    found = {name: 1 for name in names_in(graph)}
    for _, blocks in loops_in(graph):
        for name in blocks:
            found[name] = min(8 * found[name], MOST_COUNT)
    return found


def need_profile(graph, profile):
    """A dict of the blocks' names, in order, and their counts by a profile, None being the default; or BadProfile."""
    if profile is None:
        return default_counts(graph)
    if not isinstance(profile, dict):
        raise BadProfile(None)
    names = names_in(graph)
    for name in names:
        if name not in profile or not is_among(profile[name], 0, MOST_COUNT):
            raise BadProfile(name)
    if len(profile) > len(names):
        raise BadProfile(None)
    return {name: profile[name] for name in names}


def need_hold(hold):
    """None, or OutOfPlace of what is no whole number from 0 to the greatest."""
    if not is_among(hold, 0, MOST_HOLD):
        raise OutOfPlace("this is no number that words may be held for")


def counts_at(chart, profile, hold):
    """A list, by slots, of the count of each; BadProfile, then OutOfPlace of no such hold."""
    counts = need_profile(chart.graph, profile)
    need_hold(hold)
    return [counts[name] for name, _ in chart.slots]


def held_marks(chart, stands, node):
    """The slots in which a live node is held, where floating nodes stand so."""
    own = stands[node]
    return reach_of(chart, stands, node) & (chart.under[own] ^ 1 << own)


def done_by(chart, stands, counts):
    """What it costs to reckon all floating nodes where they stand."""
    return sum([COSTS[chart.nodes[node][0]] * counts[stands[node]] for node in chart.floats])


def kept_by(chart, stands, counts, hold):
    """What it costs to hold all live nodes from where they stand to their uses."""
    total = 0
    for node in chart.live:
        total += sum([counts[number] for number in bits_of(held_marks(chart, stands, node))])
    return total * hold


def price_of(chart, stands, counts, hold):
    """What it costs that nodes stand so."""
    return done_by(chart, stands, counts) + kept_by(chart, stands, counts, hold)


def default_profile(graph):
    """A dict of the blocks' names, in order, and 8 to the depth of each, at most 999."""
    return default_counts(sound_chart(graph).graph)


def held_slots(graph, placement, node):
    """A list of the slots in which a live node is held by a placement, by blocks, then rising."""
    chart = sound_chart(graph)
    stands = need_stands(chart, placement)
    if not is_among(node, 0, len(chart.nodes) - 1) or node not in chart.live:
        raise NoNode(node)
    found = [chart.slots[number] for number in bits_of(held_marks(chart, stands, node))]
    return [(name, place) for name in names_in(graph) for one, place in found if one == name]


def cost_parts(graph, placement, *, profile=None, hold=HOLD):
    """What a placement costs, a pair: for words that are reckoned, and for words that are held."""
    chart = sound_chart(graph)
    stands = need_stands(chart, placement)
    counts = counts_at(chart, profile, hold)
    return (done_by(chart, stands, counts), kept_by(chart, stands, counts, hold))


def cost_of(graph, placement, *, profile=None, hold=HOLD):
    """What a placement costs."""
    return sum(cost_parts(graph, placement, profile=profile, hold=hold))
