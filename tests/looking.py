"""By what a thing is no graph, word by word as the document says it, without a thought of how long that takes."""

SHAPES = {
    "out": "n", "store": "rnn", "check": "n", "goto": "b", "if": "nbb", "return": "n", "word": "w", "given": "g",
    "add": "nn", "sub": "nn", "mul": "nn", "and": "nn", "xor": "nn", "less": "nn", "same": "nn", "pick": "nnn",
    "div": "nn", "rest": "nn", "load": "rnv", "phi": "bi",
}
DEEDS, ENDS = ("out", "store", "check"), ("goto", "if", "return")
NODES = tuple(word for word in SHAPES if word not in DEEDS + ENDS)


def is_number(thing, most):
    """Whether a thing is a whole number from 0 to most."""
    return isinstance(thing, int) and not isinstance(thing, bool) and 0 <= thing <= most


def is_name(thing):
    """Whether a thing is one to eight small letters."""
    return isinstance(thing, str) and 1 <= len(thing) <= 8 and set(thing) <= set("abcdefghijklmnopqrstuvwxyz")


class Look:
    """A thing that may be a graph."""

    def __init__(self, thing):
        self.blocks, self.nodes = thing
        self.many = len(self.nodes)

    def is_part(self, kind, part):
        """Whether a part is of a kind."""
        if kind == "b":
            return is_name(part)
        if kind == "i":
            return isinstance(part, tuple) and all(self.is_part("n", one) for one in part)
        if kind == "v":
            return isinstance(part, tuple) and len(part) == 2 and is_name(part[0]) and is_number(part[1], 5)
        return is_number(part, {"n": self.many - 1, "r": 1, "w": 65535, "g": 3}[kind])

    def has_shape(self, thing, words):
        """Whether a thing is one of these words and what belongs behind it."""
        if not isinstance(thing, tuple) or not thing or not isinstance(thing[0], str) or thing[0] not in words:
            return False
        kinds = SHAPES[thing[0]]
        return len(thing) == len(kinds) + 1 and all(map(self.is_part, kinds, thing[1:]))

    def is_block(self, number):
        """Whether a thing is a block by its form, called as none ahead."""
        thing = self.blocks[number]
        if not isinstance(thing, tuple) or len(thing) != 3 or not is_name(thing[0]):
            return False
        if thing[0] in [block[0] for block in self.blocks[:number]]:
            return False
        if not isinstance(thing[1], tuple) or len(thing[1]) > 5:
            return False
        return all(self.has_shape(deed, DEEDS) for deed in thing[1]) and self.has_shape(thing[2], ENDS)

    def ways(self, number):
        """The names that an END names."""
        return [part for part in self.blocks[number][2][1:] if isinstance(part, str)]

    def is_end(self, number):
        """Whether an END names blocks, none of them the entry, none twice."""
        others = [block[0] for block in self.blocks[1:]]
        ways = self.ways(number)
        return all(way in others for way in ways) and len(set(ways)) == len(ways)

    def is_reached(self, number):
        """Whether a block is reached from the entry."""
        names = [block[0] for block in self.blocks]
        found = {names[0]}
        for _ in names:
            found |= {way for name in found for way in self.ways(names.index(name))}
        return names[number] in found

    def is_node(self, number):
        """Whether a thing is a node."""
        thing = self.nodes[number]
        if not self.has_shape(thing, NODES):
            return False
        if thing[0] == "load":
            return any(name == thing[3][0] and thing[3][1] <= len(deeds) for name, deeds, _ in self.blocks)
        if thing[0] == "phi":
            ahead = [one for one in range(len(self.blocks)) if thing[1] in self.ways(one)]
            return thing[1] in [block[0] for block in self.blocks[1:]] and len(ahead) == len(thing[2])
        return True

    def straight(self, node):
        """The inputs of a node, but of a phi."""
        thing = self.nodes[node]
        kinds = SHAPES[thing[0]] if thing[0] != "phi" else ""
        return {part for kind, part in zip(kinds, thing[1:]) if kind == "n"}

    def is_free(self, node):
        """Whether a node isn't among its inputs, their inputs, and so on."""
        found = self.straight(node)
        for _ in self.nodes:
            found = found.union(*[self.straight(one) for one in found])
        return node not in found


def fault_by_words(thing):
    """The part and the number of BadGraph, or None of a graph."""
    if not isinstance(thing, tuple) or len(thing) != 2:
        return (None, None)
    if not isinstance(thing[0], tuple) or not 1 <= len(thing[0]) <= 12:
        return ("blocks", None)
    if not isinstance(thing[1], tuple) or not 0 <= len(thing[1]) <= 40:
        return ("nodes", None)
    look = Look(thing)
    for part, holds, many in (
        ("blocks", look.is_block, len(thing[0])), ("ends", look.is_end, len(thing[0])),
        ("reached", look.is_reached, len(thing[0])), ("nodes", look.is_node, len(thing[1])),
        ("rings", look.is_free, len(thing[1])),
    ):
        for number in range(many):
            if not holds(number):
                return (part, number)
    return None
