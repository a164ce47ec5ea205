"""Paths over the ways of a good graph, and two of them that keep apart."""


def is_path(ways, thing):
    """Whether a thing is a path: a tuple of one block or more, by the ways of all blocks."""
    if not isinstance(thing, tuple) or not thing:
        return False
    if not all([isinstance(name, str) and name in ways for name in thing]):
        return False
    return all([after in ways[name] for name, after in zip(thing, thing[1:])])


def share_only(path, other, names):
    """Whether two paths have no block in common but these."""
    held = set(path)
    return all([name in names for name in other if name in held])


def way_back(came, last):
    """The steps, pairs, from the start of a search to the last thing in it, the last step first."""
    steps = []
    here = last
    while came[here] is not None:
        steps.append((came[here], here))
        here = came[here]
    return steps


def open_from(arcs, used, here):
    """Where to go on from here: over arcs not used, or back over used ones."""
    on = [there for there in arcs.get(here, ()) if (here, there) not in used]
    return on + [one for one, other in used if other == here]


def more_steps(arcs, used, source, sink):
    """The steps of one way more from source to sink, or None where there is none."""
    came = {source: None}
    rows = [source]
    at = 0
    while at < len(rows) and sink not in came:
        here = rows[at]
        at += 1
        for there in open_from(arcs, used, here):
            if there not in came:
                came[there] = here
                rows.append(there)
    if sink not in came:
        return None
    return way_back(came, sink)


def two_routes(arcs, source, sink):
    """Two routes from source to sink, a list, that have no arc in common; None where there aren't two."""
    used = {}
    for _ in range(2):
        steps = more_steps(arcs, used, source, sink)
        if steps is None:
            return None
        for one, other in steps:
            if (other, one) in used:
                del used[(other, one)]
            else:
                used[(one, other)] = True
    return [route_on(used, step, sink) for step in used if step[0] == source]


def route_on(used, step, sink):
    """The route over used arcs from the end of a step to the sink."""
    after = {one: other for one, other in used}
    route = [step[1]]
    while route[-1] != sink:
        route.append(after[route[-1]])
    return route


def split_arcs(ways, end):
    """Arcs by which each block but the end is gone through once: into it, (NAME, 0), and out of it, (NAME, 1)."""
    arcs = {(name, 1): [(way, 0) for way in ways[name]] for name in ways}
    for name in ways:
        if name != end:
            arcs[(name, 0)] = [(name, 1)]
    return arcs


def path_along(route):
    """The path that a route over split blocks tells: its first block, then those that it comes into."""
    return (route[0][0], *[name for name, side in route[1:] if side == 0])


def two_paths(ways, starts, end):
    """Two paths of two blocks or more from unlike starts to the end, with no block in common but that one, or None."""
    arcs = split_arcs(ways, end)
    # A path may begin at the end itself: then it goes out of it at first, and comes into it at last.
    source = ("", 0)
    arcs[source] = [(name, int(name == end)) for name in ways if name in starts]
    routes = two_routes(arcs, source, (end, 0))
    if routes is None:
        return None
    return tuple([path_along(route) for route in routes])


def two_ways(ways, start, end):
    """Two paths from a start to another block, with no block in common but these two, or None."""
    if end in ways[start]:
        return ((start, end), (start, end))
    routes = two_routes(split_arcs(ways, end), (start, 1), (end, 0))
    if routes is None:
        return None
    return tuple([(start, *path_along(route)) for route in routes])
