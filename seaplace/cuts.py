"""Nets of arcs with room, what can flow from their source to their sink, and what is cut from which."""

SOURCE = 0
SINK = 1


class Net:
    """Arcs by their numbers; that back along an arc has its number with the lowest bit turned."""

    def __init__(self):
        self.ends = []
        self.room = []
        self.arcs = [[], []]

    def add_point(self):
        """The number of a new point."""
        self.arcs.append([])
        return len(self.arcs) - 1

    def add_arc(self, one, other, room, back):
        """The number of a new arc from one point to other with this room, and that much back."""
        number = len(self.ends)
        self.ends.extend([other, one])
        self.room.extend([room, back])
        self.arcs[one].append(number)
        self.arcs[other].append(number + 1)
        return number


def steps_to_sink(net):
    """A list, by points, of how few arcs with room lead from each to the sink; -1 of none, or more than the source."""
    ends, room, arcs = net.ends, net.room, net.arcs
    found = [-1] * len(arcs)
    found[SINK] = 0
    rows = [SINK]
    at = 0
    while at < len(rows) and found[SOURCE] < 0:
        here = rows[at]
        at += 1
        far = found[here] + 1
        for arc in arcs[here]:
            if room[arc ^ 1] and found[ends[arc]] < 0:
                found[ends[arc]] = far
                rows.append(ends[arc])
    return found


def push_along(net, path):
    """Lets flow along arcs what all have room for; which place of the path has no room left, the first."""
    room = net.room
    flow = min([room[arc] for arc in path])
    full = None
    for place, arc in enumerate(path):
        room[arc] -= flow
        room[arc ^ 1] += flow
        if full is None and room[arc] == 0:
            full = place
    return full


def push_closer(net, steps):
    """Lets flow from the source to the sink what can, each arc one step closer by these steps."""
    ends, room, arcs = net.ends, net.room, net.arcs
    tried = [0] * len(arcs)
    path = []
    here = SOURCE
    while True:
        row = arcs[here]
        at = tried[here]
        closer = steps[here] - 1
        while at < len(row) and not (room[row[at]] and steps[ends[row[at]]] == closer):
            at += 1
        tried[here] = at
        if at < len(row):
            path.append(row[at])
            here = ends[row[at]]
            if here == SINK:
                full = push_along(net, path)
                here = ends[path[full] ^ 1]
                del path[full:]
        elif here == SOURCE:
            return
        else:
            here = ends[path.pop() ^ 1]
            tried[here] += 1


def fill(net):
    """Lets flow from the source to the sink as much as can."""
    steps = steps_to_sink(net)
    while steps[SOURCE] >= 0:
        push_closer(net, steps)
        steps = steps_to_sink(net)


def cut_low(net):
    """A list of True or False by the points of a filled net: which the sink can't be reached from."""
    return [step < 0 for step in steps_to_sink(net)]


def cut_high(net):
    """A list of True or False by the points of a filled net: which can be reached from the source."""
    found = [False] * len(net.arcs)
    found[SOURCE] = True
    rows = [SOURCE]
    while rows:
        for arc in net.arcs[rows.pop()]:
            if net.room[arc] and not found[net.ends[arc]]:
                found[net.ends[arc]] = True
                rows.append(net.ends[arc])
    return found
