"""What the document says of placements, word by word, found by trying all of them on small graphs."""

import itertools

from making import block_over, ways_by_hand

from seaplace.guards import is_guarded
from seaplace.graphs import block_of, fixed_uses, inputs_of, live_nodes, names_of, node_of, slots_of
from seaplace.versions import current

COSTS = {
    "word": 1, "add": 1, "sub": 1, "and": 1, "xor": 1, "less": 1, "same": 1, "pick": 1, "mul": 3, "load": 4, "div": 9,
    "rest": 9,
}


class Trial:
    """A graph, and what is asked of its placements."""

    def __init__(self, graph):
        self.graph = graph
        self.slots = slots_of(graph)
        ways, names = ways_by_hand(graph), names_of(graph)
        blocks = {(one, two): block_over(ways, names[0], one, two) for one in names for two in names}
        self.over = {
            (one, two): one[1] <= two[1] if one[0] == two[0] else blocks[one[0], two[0]]
            for one in self.slots for two in self.slots
        }
        self.live = live_nodes(graph)
        self.kinds = {node: node_of(graph, node)[0] for node in self.live}
        self.inputs = {node: inputs_of(graph, node) for node in self.live}
        self.floats = [node for node in self.live if self.kinds[node] not in ("phi", "given")]
        self.phis = [node for node in self.live if self.kinds[node] == "phi"]
        self.fixed = {node: [slot for slot, one in fixed_uses(graph) if one == node] for node in self.live}
        self.users = {node: [user for user in self.floats if node in self.inputs[user]] for node in self.live}
        self.kept_order = self.order_found()
        self.free = {(node, slot): self.is_free(node, slot) for node in self.floats for slot in self.slots}

    def is_free(self, node, slot):
        """Whether a node may stand in a slot, wherever its inputs stand."""
        thing = node_of(self.graph, node)
        if not all(self.over[slot, use] for use in self.fixed[node]):
            return False
        if thing[0] == "load":
            return current(self.graph, thing[1], slot) == thing[3]
        return thing[0] not in ("div", "rest") or is_guarded(self.graph, thing[2], slot)

    def stand(self, placed, node):
        """Where a node stands by a dict of where floating ones do."""
        if node in placed:
            return placed[node]
        return (node_of(self.graph, node)[1] if self.kinds[node] == "phi" else names_of(self.graph)[0], 0)

    def fits(self, placed, node):
        """Whether a floating node or a live phi fits."""
        own = self.stand(placed, node)
        if self.kinds[node] == "phi":
            return all(self.over[own, use] for use in self.fixed[node])
        return self.free[node, own] and all(self.over[self.stand(placed, one), own] for one in self.inputs[node])

    def misfit(self, placed):
        """The least node that doesn't fit, or None."""
        found = [node for node in sorted(self.floats + self.phis) if not self.fits(placed, node)]
        return found[0] if found else None

    def many(self):
        """How many placements there are to try."""
        many = 1
        for node in self.floats:
            many *= sum(self.free[node, slot] for slot in self.slots)
        return many

    def legal(self):
        """All legal placements, dicts, in no order that is promised."""
        may = [[slot for slot in self.slots if self.free[node, slot]] for node in self.floats]
        found = [dict(zip(self.floats, slots)) for slots in itertools.product(*may)]
        return [placed for placed in found if self.misfit(placed) is None]

    def order(self):
        """The floating nodes in their order."""
        return self.kept_order

    def order_found(self):
        """The floating nodes: again and again the least one all of whose floating inputs stand ahead."""
        found = []
        while len(found) < len(self.floats):
            found.append(min(
                node for node in self.floats
                if node not in found and all(one in found for one in self.inputs[node] if one in self.floats)
            ))
        return tuple(found)

    def depth(self, slot):
        """How many slots dominate one."""
        return sum(self.over[one, slot] for one in self.slots)

    def in_order(self):
        """All legal placements, tuples, by their numbers."""
        order = self.order()
        rows = sorted(self.legal(), key=lambda placed: [self.depth(placed[node]) for node in order])
        return [tuple(sorted(placed.items())) for placed in rows]

    def below(self, slot, other):
        """Whether a slot is below another."""
        return slot != other and self.over[other, slot]

    def held(self, placed, node):
        """The slots in which a live node is held."""
        uses = self.fixed[node] + [placed[user] for user in self.users[node]]
        own = self.stand(placed, node)
        return [slot for slot in self.slots if self.below(slot, own) and any(self.over[slot, use] for use in uses)]

    def parts(self, placed, counts, hold):
        """What it costs to reckon nodes and to hold them."""
        done = sum(COSTS[self.kinds[node]] * counts[placed[node][0]] for node in self.floats)
        kept = sum(counts[slot[0]] * hold for node in self.live for slot in self.held(placed, node))
        return (done, kept)

    def price(self, placed, counts, hold):
        """What a placement costs."""
        return sum(self.parts(placed, counts, hold))

    def highest(self, rows):
        """For each node the highest slot in which it stands by one of these placements."""
        return {node: min((placed[node] for placed in rows), key=self.depth) for node in self.floats}

    def lowest(self, rows):
        """For each node the lowest slot in which it stands by one of these placements."""
        return {node: max((placed[node] for placed in rows), key=self.depth) for node in self.floats}

    def deeds(self, name):
        """The deeds of a block."""
        return block_of(self.graph, name)[1]


def refusal(function, *things, **named):
    """The class of what a function refuses things by, and its fields; None if it doesn't."""
    try:
        function(*things, **named)
    except (ValueError, LookupError, RuntimeError) as error:
        return (error.__class__.__name__, *vars(error).values())
    return None
