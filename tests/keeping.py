"""Units by the words of the document: what each deed makes of a graph, counts, pins and a hold, and drawn deeds."""

from making import NAMES, random_deed
from trying import refusal

from seaplace.cheapest import pinned_ranges
from seaplace.graphs import is_slot, live_nodes, names_of, slots_of, ways_of
from seaplace.ranges import need_sound, ranges
from seaplace.simpler import folded, merged, tidied

TAKEN = {
    "put_node": (2,), "add_node": (1,), "add_deed": (2, 3), "drop_deed": (2,), "set_end": (2,), "split_edge": (3,),
    "set_count": (2,), "set_hold": (1,), "pin": (2,), "unpin": (1,), "merge": (0,), "fold": (0,), "tidy": (0,),
}


class Refused(Exception):
    """What a deed is refused by: the class and its fields."""


def no(name, *fields):
    """Refuses."""
    raise Refused(name, *fields)


def is_count(thing, least, most):
    return type(thing) is int and least <= thing <= most


def is_called(thing):
    return isinstance(thing, str) and 1 <= len(thing) <= 8 and all("a" <= sign <= "z" for sign in thing)


class ByDeeds:
    """A graph, counts, pins and a hold, told as a unit tells them, and what a deed makes of them."""

    def __init__(self, graph, profile, pins, hold):
        self.graph, self.profile, self.pins, self.hold = graph, dict(profile), dict(pins), hold

    def told(self):
        """All of it."""
        return (self.graph, self.profile, tuple(sorted(self.pins.items())), self.hold)

    def after(self, word, *things):
        """What stands behind a deed, and the deed's row; or Refused."""
        new = ByDeeds(*self.told())
        row = getattr(new, word)(*things)
        fault = refusal(need_sound, new.graph)
        if fault is not None:
            no(*fault)
        new.keep_pins()
        new.profile = {name: new.profile[name] for name in names_of(new.graph)}
        return new, (word, *(things if row is None else row))

    def keep_pins(self):
        """Pins of what doesn't float go; Pinned."""
        table = {node: (high, low) for node, high, low in ranges(self.graph)}
        self.pins = {node: slot for node, slot in self.pins.items() if node in table}
        for node in sorted(self.pins):
            if refusal(pinned_ranges, self.graph, ((node, self.pins[node]),)) is not None:
                no("Pinned", node)
        fault = refusal(pinned_ranges, self.graph, tuple(sorted(self.pins.items())))
        if fault is not None:
            no("Pinned", fault[1])

    def block(self, name):
        """The place of a block."""
        if not isinstance(name, str) or name not in names_of(self.graph):
            no("NoBlock", name)
        return names_of(self.graph).index(name)

    def node(self, node):
        """A node's number."""
        if not is_count(node, 0, len(self.graph[1]) - 1):
            no("NoNode", node)

    def with_blocks(self, blocks):
        self.graph = (tuple(blocks), self.graph[1])

    def put_node(self, node, thing):
        self.node(node)
        nodes = list(self.graph[1])
        nodes[node] = thing
        self.graph = (self.graph[0], tuple(nodes))

    def add_node(self, thing):
        if len(self.graph[1]) == 40:
            no("TooGreat")
        self.graph = (self.graph[0], (*self.graph[1], thing))

    def shift(self, name, at, by):
        """Slots of a block behind a place become others."""
        def to(slot):
            return (name, slot[1] + by) if slot[0] == name and slot[1] > at else slot
        self.pins = {node: to(slot) for node, slot in self.pins.items()}
        nodes = [(*thing[:3], to(thing[3])) if thing[0] == "load" else thing for thing in self.graph[1]]
        self.graph = (self.graph[0], tuple(nodes))

    def add_deed(self, block, deed, at=None):
        place = self.block(block)
        blocks = list(self.graph[0])
        name, deeds, end = blocks[place]
        if at is None:
            at = len(deeds)
        if not is_count(at, 0, len(deeds)):
            no("OutOfPlace")
        if len(deeds) == 5:
            no("TooGreat")
        blocks[place] = (name, deeds[:at] + (deed,) + deeds[at:], end)
        self.with_blocks(blocks)
        self.shift(block, at, 1)
        return (block, deed, at)

    def drop_deed(self, block, at):
        place = self.block(block)
        blocks = list(self.graph[0])
        name, deeds, end = blocks[place]
        if not is_count(at, 0, len(deeds) - 1):
            no("OutOfPlace")
        if deeds[at][0] == "store":
            for node in live_nodes(self.graph):
                if self.graph[1][node][:2] == ("load", deeds[at][1]) and self.graph[1][node][3] == (block, at + 1):
                    no("Unsound", node)
        blocks[place] = (name, deeds[:at] + deeds[at + 1:], end)
        self.with_blocks(blocks)
        self.shift(block, at, -1)

    def set_end(self, block, end):
        blocks = list(self.graph[0])
        place = self.block(block)
        blocks[place] = (*blocks[place][:2], end)
        self.with_blocks(blocks)

    def split_edge(self, block, to, name):
        place = self.block(block)
        self.block(to)
        if to not in ways_of(self.graph, block) or not is_called(name):
            no("OutOfPlace")
        if name in names_of(self.graph):
            no("Twice")
        if len(self.graph[0]) == 12:
            no("TooGreat")
        blocks = list(self.graph[0])
        end = tuple(name if at > 0 and part == to else part for at, part in enumerate(blocks[place][2]))
        blocks[place:place + 1] = [(*blocks[place][:2], end), (name, (), ("goto", to))]
        self.with_blocks(blocks)
        self.profile[name] = min(self.profile[block], self.profile[to])

    def set_count(self, block, count):
        self.block(block)
        if not is_count(count, 0, 999):
            no("BadProfile", block)
        self.profile[block] = count

    def set_hold(self, hold):
        if not is_count(hold, 0, 9):
            no("OutOfPlace")
        self.hold = hold

    def pin(self, node, slot):
        self.node(node)
        if node not in [row[0] for row in ranges(self.graph)] or not is_slot(self.graph, slot):
            no("OutOfPlace")
        self.pins[node] = slot

    def unpin(self, node):
        self.node(node)
        if node not in self.pins:
            no("Nothing")
        del self.pins[node]

    def merge(self):
        self.graph = merged(self.graph)

    def fold(self):
        self.graph = folded(self.graph)

    def tidy(self):
        live = list(live_nodes(self.graph))
        self.pins = {live.index(node): slot for node, slot in self.pins.items()}
        self.graph = tidied(self.graph)

    def as_one(self, deeds):
        """What stands behind deeds as one, and their row; or Refused, its last field which one is refused."""
        if type(deeds) is not tuple or not 1 <= len(deeds) <= 20 or not all(type(deed) is tuple for deed in deeds):
            raise Refused("OutOfPlace", 0)
        new, rows = self, []
        for number, deed in enumerate(deeds):
            try:
                if not deed or not isinstance(deed[0], str) or len(deed) - 1 not in TAKEN.get(deed[0], ()):
                    no("OutOfPlace")
                new, row = new.after(*deed)
            except Refused as error:
                raise Refused(*error.args, number) from None
            rows.append(row)
        return new, ("many", tuple(rows))


def some_deed(chance, graph, pins):
    """A deed by chance: often one that can be done."""
    names, nodes = list(names_of(graph)), graph[1]
    many = len(nodes)
    word = chance.choice((
        "put_node", "add_node", "add_deed", "add_deed", "drop_deed", "drop_deed", "set_end", "split_edge",
        "set_count", "set_hold", "pin", "pin", "pin", "unpin", "merge", "fold", "tidy",
    ))
    name = chance.choice(names)
    floats = [row[0] for row in ranges(graph)]
    deeds = {block[0]: block[1] for block in graph[0]}
    if word == "put_node":
        node = chance.randrange(many + 1) if many else 0
        return (word, node, some_node(chance, graph, min(node, many - 1)))
    if word == "add_node":
        return (word, some_node(chance, graph, many))
    if word == "add_deed":
        at = chance.choice((None, chance.randrange(6), chance.randrange(len(deeds[name]) + 1)))
        deed = random_deed(chance, many or 1)
        return chance.choice(((word, name, deed, at), (word, name, deed)))
    if word == "drop_deed":
        full = [one for one in names if deeds[one]] or names
        name = chance.choice(full)
        return (word, name, chance.randrange(len(deeds[name]) or 1))
    if word == "set_end":
        end = dict((block[0], block[2]) for block in graph[0])[name]
        if end[0] == "if" and chance.random() < 0.6:
            return (word, name, ("if", chance.randrange(many), end[3], end[2]))
        return (word, name, chance.choice((
            end, ("return", chance.randrange(many + 1)), ("goto", chance.choice(names)),
            ("if", chance.randrange(many + 1), chance.choice(names), chance.choice(names)))))
    if word == "split_edge":
        ways = ways_of(graph, name) or names
        return (word, name, chance.choice([*ways, *ways, *names]), chance.choice(("x", "y", "z", "abcdefgh", *NAMES)))
    if word == "set_count":
        return (word, name, chance.choice((0, 1, 5, 50, 999, 1000)))
    if word == "set_hold":
        return (word, chance.choice((0, 1, 3, 9, 10)))
    if word == "pin":
        node = chance.choice(floats or [0])
        table = {row[0]: row[1:] for row in ranges(graph)}
        if node in table and chance.random() < 0.8:
            return (word, node, chance.choice(table[node]))
        return (word, chance.randrange(many + 1), chance.choice(slots_of(graph)))
    if word == "unpin":
        return (word, chance.choice(([node for node, _ in pins] or [0]) + [chance.randrange(many + 1)]))
    return (word,)


def some_node(chance, graph, before):
    """A node whose inputs are mostly less than a number."""
    least = max(before, 1)
    pick = [chance.randrange(least) for _ in range(3)]
    loads = [thing for thing in graph[1] if thing[0] in ("load", "phi")]
    return chance.choice((
        ("word", chance.choice((0, 1, 7))), ("given", chance.randrange(4)), ("add", *pick[:2]), ("xor", *pick[:2]),
        ("less", *pick[:2]), ("pick", *pick), ("div", *pick[:2]), chance.choice(loads or [("word", 3)]),
        ("word", 65535), ("sub", chance.randrange(41), 0),
    ))
