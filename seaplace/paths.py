"""Paths over the ways of a good graph, and two of them that keep apart."""


def is_path(ways, thing):
    """Whether a thing is a path: a tuple of one block or more, by the ways of all blocks."""
    if not isinstance(thing, tuple) or not thing:
        return False
    if not all([isinstance(name, str) and name in ways for name in thing]):
        return False
    return all([after in ways[name] for name, after in zip(thing, thing[1:])])


def share_only(path, other, names):
    """Whether two paths have no block in common but these."""
    held = set(path)
    return all([name in names for name in other if name in held])


def way_back(came, last):
    """The steps, pairs, from the start of a search to the last thing in it, the last step first."""
    steps = []
    here = last
    while came[here] is not None:
        steps.append((came[here], here))
        here = came[here]
    return steps


def open_from(arcs, used, here):
    """Where to go on from here: over arcs not used, or back over used ones."""
    on = [there for there in arcs.get(here, ()) if (here, there) not in used]
    return on + [one for one, other in used if other == here]


def more_steps(arcs, used, source, sink):
    """The steps of one way more from source to sink."""
    came = {source: None}
    rows = [source]
    while sink not in came:
        here = rows.pop()
        for there in open_from(arcs, used, here):
            if there not in came:
                came[there] = here
                rows.append(there)
    return way_back(came, sink)


def two_routes(arcs, source, sink):
    """Two routes from source to sink, a list, that have no arc in common, where there are two."""
    used = {}
    for _ in range(2):
        for one, other in more_steps(arcs, used, source, sink):
            if (other, one) in used:
                del used[(other, one)]
            else:
                used[(one, other)] = True
    return [route_on(used, step, sink) for step in used if step[0] == source]


def route_on(used, step, sink):
    """The route over used arcs from the end of a step to the sink."""
    after = {one: other for one, other in used}
    route = [step[1]]
    while route[-1] != sink:
        route.append(after[route[-1]])
    return route


def split_arcs(ways, end):
    """Arcs by which each block but the end is gone through once: into it, (NAME, 0), and out of it, (NAME, 1)."""
    arcs = {(name, 1): [(way, 0) for way in ways[name]] for name in ways}
    for name in ways:
        if name != end:
            arcs[(name, 0)] = [(name, 1)]
    return arcs


def path_along(route):
    """The path that a route over split blocks tells: its first block, then those that it comes into."""
    return (route[0][0], *[name for name, side in route[1:] if side == 0])


def two_paths(ways, starts, end):
    """Two paths from unlike starts, of two blocks or more, that join at the end and have no other block in common."""
    arcs = split_arcs(ways, end)
    # A path may begin at the end itself: then it goes out of it at first, and comes into it at last.
    source = ("", 0)
    arcs[source] = [(name, int(name == end)) for name in ways if name in starts]
    return tuple([path_along(route) for route in two_routes(arcs, source, (end, 0))])


def two_ways(ways, start, end):
    """Two paths from a block's dominator to it that have no block in common but these two."""
    if end in ways[start]:
        return ((start, end), (start, end))
    routes = two_routes(split_arcs(ways, end), (start, 1), (end, 0))
    return tuple([(start, *path_along(route)) for route in routes])
