"""Graphs of parts: what edges connect, their cycles and their trees.

Parts are numbers. Edges are a dict from names to tuples of the two parts that each connects,
which may be the same part.
"""


def reached_from(part, pairs):
    """Return the parts, in ascending order, to which edges lead from a part, with this part."""
    reached = [part]
    waiting = [part]
    while len(waiting) > 0:
        last = waiting.pop()
        new = sorted({far for pair in pairs if last in pair for far in pair if far not in reached})
        reached.extend(new)
        waiting.extend(new)
    return sorted(reached)


def is_tree(pairs, total):
    """Return True if edges connect all of so many parts and form no cycle."""
    # With fewer edges they would not be connected, and each one more closes a cycle.
    return len(pairs) == total - 1 and len(reached_from(0, pairs)) == total


def first_cycle(ends):
    """Return the names of a cycle of edges, in the order in which it connects them, or None."""
    forest = {}
    for name in ends:
        one, other = ends[name]
        path = _path_between(other, one, forest)
        if path is not None:
            return [name, *path]
        forest[name] = ends[name]
    return None


def forest_names(ends):
    """Return the names of the edges that form no cycle with those before them."""
    forest = {}
    for name in ends:
        one, other = ends[name]
        if other not in reached_from(one, list(forest.values())):
            forest[name] = ends[name]
    return list(forest)


def is_cycle(pairs):
    """Return True if edges, in this order, lead through as many different parts back to the first one."""
    return len(pairs) > 0 and any([_is_closed(start, pairs) for start in pairs[0]])


def _is_closed(start, pairs):
    """Return True if edges, in this order, lead from a part through different parts back to it."""
    parts = [start]
    for one, other in pairs:
        if parts[-1] not in (one, other):
            return False
        parts.append(other if parts[-1] == one else one)
    return parts[-1] == start and len(set(parts)) == len(pairs)


def _path_between(start, goal, forest):
    """Return the names on the way from one part to another along edges without a cycle, or None."""
    waiting = [(start, [])]
    while len(waiting) > 0:
        part, names = waiting.pop()
        if part == goal:
            return names
        for name in forest:
            one, other = forest[name]
            if part in (one, other) and name not in names:
                waiting.append((other if part == one else one, [*names, name]))
    return None
