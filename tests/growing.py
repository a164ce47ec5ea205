"""Sound graphs by a seed: each node is grown in a slot in which it may stand, of what may stand above."""

import random

from making import block_over, random_ways

from seaplace.versions import current


class Grown:
    """A graph that grows slot by slot, blocks ahead of those that they dominate."""

    def __init__(self, seed, blocks, deeds, nodes, wide):
        self.wide = wide
        self.chance = random.Random(seed)
        self.ways = random_ways(self.chance, blocks)
        self.names = list(self.ways)
        self.ahead = {name: [one for one in self.names if name in self.ways[one]] for name in self.names}
        self.kinds = {name: self.some_kinds(deeds) for name in self.names}
        self.stores = self.bare_graph()
        self.nodes = []
        self.slots = []
        self.most = nodes
        self.deeds = {}
        self.ends = {}
        self.nonzero = []
        self.used = set()

    def some_kinds(self, most):
        """What the deeds of a block will be."""
        many = self.chance.choice((0, most // 2, most, most))
        return [self.chance.choice(("out", "check", "check", "store")) for _ in range(self.chance.randint(0, many))]

    def bare_graph(self):
        """The blocks and stores, without the nodes that they ask for, by which versions are current."""
        self.regions = {}
        blocks = []
        for name in self.names:
            deeds = []
            for place, kind in enumerate(self.kinds[name]):
                self.regions[(name, place)] = self.chance.randrange(2)
                deeds.append(("store", self.regions[(name, place)], 0, 0) if kind == "store" else ("out", 0))
            on = self.ways[name]
            end = ("if", 0, *on) if len(on) == 2 else ("goto", *on) if on else ("return", 0)
            blocks.append((name, tuple(deeds), end))
        return (tuple(blocks), (("word", 0),))

    def add(self, thing, slot):
        """A new node that may stand in a slot."""
        self.nodes.append(thing)
        self.slots.append(slot)
        return len(self.nodes) - 1

    def is_over(self, slot, other):
        """Whether a slot dominates another."""
        if slot[0] == other[0]:
            return slot[1] <= other[1]
        return block_over(self.ways, "top", slot[0], other[0])

    def near(self, slot):
        """A node that may stand ahead of a slot, rather one grown late, or one that nobody asks for."""
        found = [node for node in range(len(self.nodes)) if self.is_over(self.slots[node], slot)]
        lone = [node for node in found if node not in self.used]
        node = self.chance.choice(lone if lone and self.chance.random() < 0.6 else found + found[-3:] * 2)
        self.used.add(node)
        return node

    def asked(self, slot):
        """A node for a deed; where the ranges are to be wide rather the first one of all."""
        if self.wide and self.chance.random() < 0.7:
            return 0
        return self.near(slot)

    def divisor(self, slot):
        """A node that isn't 0 in a slot."""
        found = [node for node, over in self.nonzero if self.is_over(over, slot)]
        if found:
            return self.chance.choice(found)
        return self.add(("word", self.chance.randint(1, 5)), ("top", 0))

    def grow_node(self, slot):
        """A node that may stand in a slot and, most often, no higher."""
        kind = self.chance.choice((
            "word", "given", "add", "sub", "mul", "and", "xor", "less", "same", "pick", "load", "load", "div", "rest",
        ))
        if kind == "word":
            self.add((kind, self.chance.choice((0, 1, 2, 65535))), slot)
        elif kind == "given":
            self.add((kind, self.chance.randrange(4)), ("top", 0))
        elif kind == "pick":
            self.add((kind, self.near(slot), self.near(slot), self.near(slot)), slot)
        elif kind == "load":
            region = self.chance.randrange(2)
            self.add((kind, region, self.near(slot), current(self.stores, region, slot)), slot)
        elif kind in ("div", "rest"):
            self.add((kind, self.near(slot), self.divisor(slot)), slot)
        else:
            self.add((kind, self.near(slot), self.near(slot)), slot)

    def grow_block(self, name):
        """The deeds and the END of a block, and nodes ahead of them."""
        rows = []
        for place, kind in enumerate(self.kinds[name] + ["end"]):
            slot = (name, place)
            for _ in range(self.chance.choice((0, 1, 1, 2, 3))):
                if len(self.nodes) < self.most:
                    self.grow_node(slot)
            node = self.asked(slot)
            if kind == "store":
                rows.append((kind, self.regions[slot], self.near(slot), node))
            elif kind != "end":
                rows.append((kind, node))
            if kind == "check":
                self.nonzero.append((node, (name, place + 1)))
        self.deeds[name] = tuple(rows)
        on = self.ways[name]
        self.ends[name] = ("if", node, *on) if len(on) == 2 else ("goto", *on) if on else ("return", node)
        for way in on[:1]:
            if len(on) == 2 and len(self.ahead[way]) == 1:
                self.nonzero.append((node, (way, 0)))

    def grow(self):
        """The graph, its nodes exchanged."""
        self.add(("word", self.chance.randrange(3)), ("top", 0))
        phis = []
        done = []
        while len(done) < len(self.names):
            for name in self.names:
                over = [one for one in self.names if one != name and block_over(self.ways, "top", one, name)]
                if name in done or not all(one in done for one in over):
                    continue
                if name != "top" and self.chance.random() < 0.7:
                    phis.append((self.add(("phi", name, ()), (name, 0)), name))
                done.append(name)
                self.grow_block(name)
        for node, name in phis:
            inputs = tuple(self.near((one, len(self.kinds[one]))) for one in self.ahead[name])
            self.nodes[node] = ("phi", name, inputs)
        return self.mixed()

    def mixed(self):
        """The graph with its nodes in another order."""
        many = len(self.nodes)
        place = list(range(many))
        if self.chance.random() < 0.8:
            self.chance.shuffle(place)
        nodes = [None] * many
        for node, thing in enumerate(self.nodes):
            nodes[place[node]] = moved(thing, place)
        blocks = [
            (name, tuple(moved(deed, place) for deed in self.deeds[name]), moved(self.ends[name], place))
            for name in self.names
        ]
        return (tuple(blocks), tuple(nodes))


NODES_AT = {
    "word": (), "given": (), "phi": (), "load": (2,), "pick": (1, 2, 3), "out": (1,), "check": (1,), "store": (2, 3),
    "goto": (), "if": (1,), "return": (1,),
}


def moved(thing, place):
    """A node, a deed or an END whose nodes have other numbers."""
    if thing[0] == "phi":
        return ("phi", thing[1], tuple(place[node] for node in thing[2]))
    at = NODES_AT.get(thing[0], (1, 2))
    return tuple(place[part] if number in at else part for number, part in enumerate(thing))


def grown(seed, *, blocks=4, deeds=2, nodes=8, wide=False):
    """A sound graph by a seed, of at most so many blocks, deeds in each, and about so many nodes."""
    while True:
        least = 1 + blocks // 2 if seed % 4 else 1
        graph = Grown(seed, random.Random(seed).randint(least, blocks), deeds, nodes, wide).grow()
        if len(graph[1]) <= 40:
            return graph
        seed += 1000003
