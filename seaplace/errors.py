"""The refusals: a class for each kind of them, straight under one of three."""


class GraphError(ValueError):
    """A refusal of what is handed in."""


class BadRow(GraphError):
    """A row of a text that can't stand, and in it the first word that can't."""

    def __init__(self, row, word):
        self.row = row
        self.word = word


class BadGraph(GraphError):
    """What is no graph: the part that can't be, and the number of the first thing in it."""

    def __init__(self, part=None, number=None):
        self.part = part
        self.number = number


class BadGiven(GraphError):
    """Given words of which one is none."""

    def __init__(self, number=None):
        self.number = number


class BadPlacement(GraphError):
    """What is no placement, or one by which a node doesn't fit."""

    def __init__(self, node=None):
        self.node = node


class BadProfile(GraphError):
    """What is no profile: the first block without a count."""

    def __init__(self, block=None):
        self.block = block


class BadPaper(GraphError):
    """A paper that isn't right, and the place where it isn't."""

    def __init__(self, place=None):
        self.place = place


class BadCode(GraphError):
    """Code of which a row can't stand, or isn't the one that is due."""

    def __init__(self, row=None):
        self.row = row


class Twice(GraphError):
    """Something that is there already."""


class OutOfPlace(GraphError):
    """Something of another kind or form than is wanted where it stands."""


class TooGreat(GraphError):
    """More than there may be."""


class MissError(LookupError):
    """A refusal of what isn't there."""


class NoBlock(MissError):
    """What is no block's name."""

    def __init__(self, name):
        self.name = name


class NoNode(MissError):
    """What is no node's number."""

    def __init__(self, node):
        self.node = node


class Nothing(MissError):
    """Nothing there to be done, or to be told."""


class UnsoundError(RuntimeError):
    """A refusal of what leaves a node without a slot."""


class Unsound(UnsoundError):
    """A graph by which a node has no slot."""

    def __init__(self, node):
        self.node = node


class Pinned(UnsoundError):
    """Pins by which a node has no slot."""

    def __init__(self, node):
        self.node = node
