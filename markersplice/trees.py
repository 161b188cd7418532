"""Which sets of names are those of the loops of a complete sequence, and which loops make a ring.

In the final result of a strip each name is an edge between two parts. The loop sets are the trees.
"""

from itertools import combinations

from markersplice.checks import check_known, check_names, check_strip, is_name_list
from markersplice.errors import UnknownPart
from markersplice.graphs import first_cycle, forest_names, is_cycle, is_tree, reached_from
from markersplice.joining import edges, join_all
from markersplice.operations import removes_all
from markersplice.removal import ops_via
from markersplice.rows import is_integer


def can_loop(strip, name):
    """Return True if some complete sequence contains a loop at this name."""
    one, other = _known_edges(strip, [name])[name]
    return one != other


def must_loop(strip, name):
    """Return True if all complete sequences contain a loop at this name."""
    ends = _known_edges(strip, [name])
    one, other = ends[name]
    # All names together connect all parts, so without one name only its own two parts can be apart.
    return other not in reached_from(one, [ends[rest] for rest in ends if rest != name])


def loop_sets(strip):
    """Return all loop sets, each as the list of its names."""
    ends = edges(strip)
    names = list(ends)
    final = join_all(strip)
    # A tree has as many names as there are rings.
    return [list(chosen) for chosen in combinations(names, len(final))
            if is_tree([ends[name] for name in chosen], len(final) + 1)]


def loop_set_count(strip):
    """Return how many loop sets there are."""
    return len(loop_sets(strip))


def loop_certificate(strip, names):
    """Return what shows that names are a loop set, or that they are not."""
    ends = _edges_of(strip, names)
    cycle = first_cycle(ends)
    if cycle is not None:
        return ("blocked", "cycle", cycle)
    reached = reached_from(0, list(ends.values()))
    unreached = [part for part in range(_part_count(strip)) if part not in reached]
    if len(unreached) > 0:
        return ("blocked", "unreached", unreached)
    # Joining at the other names leaves no ring, so their operations contain no loop. All rings
    # come later, so each of the operations behind them is a loop.
    others = [name for name in strip.names() if name not in names]
    first, last = ops_via(strip, others, strip.names())
    return ("operations", [*first, *last])


def is_loop_certificate(strip, names, value):
    """Return True if a value shows that names are a loop set, or that they are not."""
    ends = _edges_of(strip, names)
    if not isinstance(value, tuple):
        return False
    if len(value) == 2 and value[0] == "operations":
        return _has_loops_at(strip, names, value[1])
    if len(value) != 3 or value[0] != "blocked" or not isinstance(value[2], list):
        return False
    _, reason, detail = value
    if reason == "cycle":
        return _are_among(detail, ends) and is_cycle([ends[name] for name in detail])
    return reason == "unreached" and _are_cut_off(detail, list(ends.values()), _part_count(strip))


def can_make_ring(strip, name, ring):
    """Return True if some complete sequence contains a loop at this name that makes this ring."""
    return _ring_obstacle(_ring_edges(strip, name, ring), name, ring) is None


def ring_certificate(strip, name, ring):
    """Return what shows that a loop at this name can make this ring, or that it cannot."""
    ends = _ring_edges(strip, name, ring)
    obstacle = _ring_obstacle(ends, name, ring)
    if obstacle is not None:
        return ("blocked", *obstacle)
    # The edges beside the ring come first, so that they lead on to the strip from the other part of
    # the name. Then comes the name, so that no other edge connects the ring with what they connect.
    beside = {other: ends[other] for other in ends if ring not in ends[other]}
    chosen = forest_names({**beside, name: ends[name], **ends})
    return ("set", [other for other in ends if other in chosen])


def is_ring_certificate(strip, name, ring, value):
    """Return True if a value shows that a loop at this name can make this ring, or that it cannot."""
    ends = _ring_edges(strip, name, ring)
    if not isinstance(value, tuple):
        return False
    if len(value) == 2 and value[0] == "set":
        return _leads_over(value[1], name, ring, ends, _part_count(strip))
    if len(value) != 3 or value[0] != "blocked":
        return False
    _, reason, detail = value
    one, other = ends[name]
    last = _part_count(strip) - 1
    if reason == "within":
        return one == other and is_integer(detail, 0, last) and detail == one
    if not isinstance(detail, list) or not all([is_integer(part, 0, last) for part in detail]) or one == other:
        return False
    if reason == "beside":
        return ring not in (one, other) and sorted(detail) == sorted([one, other])
    return reason == "cut" and ring in (one, other) and _are_behind(detail, one + other - ring, ring, ends)


def _known_edges(strip, names):
    """Return the edges of a strip in which these values are names."""
    check_strip(strip)
    check_known(names, strip.names())
    return edges(strip)


def _edges_of(strip, names):
    """Return the edges of these names of a strip."""
    check_strip(strip)
    check_names(names)
    ends = _known_edges(strip, names)
    return {name: ends[name] for name in names}


def _ring_edges(strip, name, ring):
    """Return the edges of a strip that has this name and this ring in its final result."""
    ends = _known_edges(strip, [name])
    if not is_integer(ring, 1, _part_count(strip) - 1):
        raise UnknownPart(ring)
    return ends


def _part_count(strip):
    return len(join_all(strip)) + 1


def _has_loops_at(strip, names, value):
    """Return True if a value is a complete sequence with loops at exactly these names."""
    if not removes_all(strip, value):
        return False
    return sorted([op[1] for op in value if op[0] == "loop"]) == sorted(names)


def _are_among(value, names):
    """Return True if a value is a list or tuple of distinct ones of these names."""
    return is_name_list(value) and all([name in names for name in value])


def _are_cut_off(detail, pairs, total):
    """Return True if a list holds numbers of rings that edges do not connect with the other parts."""
    if len(detail) == 0 or not all([is_integer(part, 1, total - 1) for part in detail]):
        return False
    return len(set(detail)) == len(detail) and all([(one in detail) == (other in detail) for one, other in pairs])


def _ring_obstacle(ends, name, ring):
    """Return the reason why no loop at this name can make this ring, with its detail, or None."""
    one, other = ends[name]
    if one == other:
        return ("within", one)
    if ring not in (one, other):
        return ("beside", sorted([one, other]))
    far = one + other - ring
    reached = reached_from(far, [pair for pair in ends.values() if ring not in pair])
    return ("cut", reached) if 0 not in reached else None


def _leads_over(value, name, ring, ends, total):
    """Return True if a value is a tree in which the way from this ring to the strip begins with this name."""
    if not _are_among(value, ends) or name not in value or ring not in ends[name]:
        return False
    if not is_tree([ends[other] for other in value], total):
        return False
    # Without its first edge, a tree leads from the ring no longer to the strip.
    return 0 not in reached_from(ring, [ends[other] for other in value if other != name])


def _are_behind(detail, far, ring, ends):
    """Return True if a list of parts holds this other part of a name, but the strip only behind the ring."""
    if len(set(detail)) != len(detail) or far not in detail or 0 in detail or ring in detail:
        return False
    # An edge that leads from a listed part to one that is not listed must lead to the ring.
    return all([(one in detail) == (other in detail) for one, other in ends.values() if ring not in (one, other)])
