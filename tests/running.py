"""Runs and lives by the words of the document, without anything of the program's own but what tells of graphs."""

from trying import Trial

from seaplace.graphs import live_nodes, names_of, predecessors, ways_of
from seaplace.joins import joins


def by_table(kind, words):
    """The word of an operation."""
    return {
        "add": lambda a, b: (a + b) % 65536, "sub": lambda a, b: (a - b) % 65536, "mul": lambda a, b: a * b % 65536,
        "and": lambda a, b: a & b, "xor": lambda a, b: a ^ b, "less": lambda a, b: 1 if a < b else 0,
        "same": lambda a, b: 1 if a == b else 0, "pick": lambda c, a, b: a if c else b,
        "div": lambda a, b: a // b, "rest": lambda a, b: a % b,
    }[kind](*words)


class ByWords:
    """A run by demand in which nothing is kept but what was made: each word is reckoned anew whenever it is asked."""

    def __init__(self, graph, given, most):
        self.blocks = {block[0]: block for block in graph[0]}
        self.graph = graph
        self.nodes = graph[1]
        self.given = (*given, 0, 0, 0, 0)
        self.live = live_nodes(graph)
        self.heads = [self.new_heads(region) for region in (0, 1)]
        self.cells = {(region, cell): 0 for region in (0, 1) for cell in range(8)}
        self.made = {}
        self.set = {}
        self.outs = []
        self.visits = []
        self.way = self.go(most)

    def new_heads(self, region):
        """The new heads of a region."""
        stores = [name for name, deeds, _ in self.graph[0] if any(deed[:2] == ("store", region) for deed in deeds)]
        return {names_of(self.graph)[0], *joins(self.graph, stores)}

    def make(self, region, slot):
        """Keeps what the cells of a region hold as a version."""
        self.made[region, slot] = {cell: self.cells[region, cell] for cell in range(8)}

    def reckon(self, node):
        """The word of a node now, and all that are asked for it."""
        thing = self.nodes[node]
        if thing[0] == "phi":
            return self.set[node], {node}
        if thing[0] in ("word", "given"):
            return (thing[1] if thing[0] == "word" else self.given[thing[1]]), {node}
        inputs = thing[2:3] if thing[0] == "load" else thing[1:]
        told = [self.reckon(one) for one in inputs]
        asked = {node}.union(*[one[1] for one in told])
        words = [one[0] for one in told]
        if thing[0] == "load":
            return self.made[thing[1], thing[3]][words[0] % 8], asked
        return by_table(thing[0], words), asked

    def ask(self, node):
        """The word of a node that is asked for in this visit."""
        word, asked = self.reckon(node)
        for one in asked:
            self.asked[one] = self.reckon(one)[0]
        return word

    def go(self, most):
        """How the run ends."""
        name, come = names_of(self.graph)[0], None
        while True:
            phis = {node: self.nodes[node] for node in self.live if self.nodes[node][:2] == ("phi", name)}
            if come is not None:
                at = predecessors(self.graph, name).index(come)
                words = {node: self.ask(thing[2][at]) for node, thing in phis.items()}
                self.set.update(words)
            self.asked = {}
            cells = tuple(tuple(self.cells[region, cell] for cell in range(8)) for region in (0, 1))
            self.visits.append((name, tuple((node, self.set[node]) for node in sorted(phis)), self.asked, cells))
            end = self.through(name)
            if end is not None:
                return end
            end = self.blocks[name][2]
            way = end[1] if end[0] == "goto" else None
            if end[0] == "return":
                return ("returned", self.ask(end[1]))
            if end[0] == "if":
                way = end[2] if self.ask(end[1]) else end[3]
            if len(self.visits) == most:
                return ("stopped",)
            name, come = way, name

    def through(self, name):
        """The deeds of a block; how the run ends there, or None."""
        for region in (0, 1):
            if name in self.heads[region]:
                self.make(region, (name, 0))
        for place, deed in enumerate(self.blocks[name][1]):
            if deed[0] == "out":
                self.outs.append(self.ask(deed[1]))
            elif deed[0] == "check":
                if self.ask(deed[1]) == 0:
                    return ("fault", name, place)
            else:
                self.cells[deed[1], self.ask(deed[2]) % 8] = self.ask(deed[3])
                self.make(deed[1], (name, place + 1))
        return None

    def result(self):
        """What the run comes to."""
        return (tuple(self.outs), self.way)

    def paper(self):
        """The paper of the run."""
        return tuple((name, phis, tuple(sorted(asked.items())), cells) for name, phis, asked, cells in self.visits)


class Living:
    """Where words live by a placement, found by going on along all ways."""

    def __init__(self, graph, placement):
        self.graph = graph
        self.trial = Trial(graph)
        self.placed = dict(placement)
        self.rows = {name: self.rows_of(name) for name in names_of(graph)}
        self.points = [(name, at) for name in names_of(graph) for at in range(len(self.rows[name]) + 1)]
        self.asked = {(name, at): self.asks(name, row) for name in self.rows for at, row in enumerate(self.rows[name])}
        self.ways = {name: ways_of(graph, name) for name in self.rows}
        self.set = {name: [node for node in self.trial.phis if graph[1][node][1] == name] for name in self.rows}
        self.ends = {name: self.end_asks(name) for name in self.rows}

    def rows_of(self, name):
        """The rows of a block."""
        rows = []
        deeds = self.trial.deeds(name)
        for place in range(len(deeds) + 1):
            rows.extend(("node", node) for node in self.trial.order() if self.placed[node] == (name, place))
            if place < len(deeds):
                rows.append(("deed", place))
        return tuple(rows)

    def asks(self, name, row):
        """The nodes that a row asks for."""
        if row[0] == "node":
            return self.trial.inputs[row[1]]
        deed = self.trial.deeds(name)[row[1]]
        return deed[2:] if deed[0] == "store" else deed[1:]

    def end_asks(self, name):
        """The nodes that the END of a block asks for."""
        end = {block[0]: block[2] for block in self.graph[0]}[name]
        found = [] if end[0] == "goto" else [end[1]]
        for way in self.ways[name]:
            at = predecessors(self.graph, way).index(name)
            found += [self.graph[1][node][2][at] for node in self.set[way]]
        return found

    def is_live(self, node, point):
        """Whether some way on from a point leads to where a node is asked for ahead of being made again."""
        seen, rows = set(), [point]
        while rows:
            name, at = rows.pop()
            if (name, at) in seen:
                continue
            seen.add((name, at))
            if at < len(self.rows[name]):
                if node in self.asked[name, at]:
                    return True
                if self.rows[name][at] != ("node", node):
                    rows.append((name, at + 1))
                continue
            if node in self.ends[name]:
                return True
            rows.extend((way, 0) for way in self.ways[name] if node not in self.set[way])
        return False

    def live(self, point):
        """The nodes that are live at a point."""
        return [node for node in self.trial.live if self.is_live(node, point)]

    def made(self, node):
        """The point at which a node is made."""
        if node in self.placed:
            name = self.placed[node][0]
            return (name, self.rows[name].index(("node", node)) + 1)
        return self.trial.stand(self.placed, node)


def some_words(chance):
    """Words given, none to four."""
    return tuple(chance.choice((0, 1, 2, 7, 65535, chance.randrange(65536))) for _ in range(chance.randrange(5)))
