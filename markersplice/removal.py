"""Which sets of names operations can remove, and by which operations."""

from itertools import combinations

from markersplice.checks import check_known, check_strip
from markersplice.errors import InvalidNames
from markersplice.joining import JoinedStrip
from markersplice.operations import applicable_count, apply_op, available_ops, op_names
from markersplice.reaching import bare_strip, larger_sets
from markersplice.rows import is_integer


def is_removable(strip, names):
    """Return True if operations can remove exactly these names."""
    return _rings_are_bare(JoinedStrip(strip, names))


def ops_for(strip, names):
    """Return operations that, one after another, remove exactly these names."""
    # This raises the error of names that are not removable.
    JoinedStrip(strip, names).remaining()
    return _ops_removing(strip, names)


def removes_exactly(strip, names, value):
    """Return True if a value holds operations that, one after another, remove exactly these names."""
    joined = JoinedStrip(strip, names)
    if not isinstance(value, (list, tuple)) or applicable_count(strip, value) != len(value):
        return False
    return sorted([name for op in value for name in op_names(op)]) == sorted(joined.names())


def is_blocking_ring(strip, names, value):
    """Return True if a value holds the number of a ring of the result and the name of a marker in it."""
    joined = JoinedStrip(strip, names)
    if not isinstance(value, tuple) or len(value) != 2:
        return False
    number, name = value
    return is_integer(number, 1, len(joined)) and name in joined.rings()[number - 1].names()


def removable_sets(strip):
    """Return all removable sets as tuples of names, smaller ones first."""
    check_strip(strip)
    names = strip.names()
    found = [_numbers_in(removed, len(names)) for removed in larger_sets(strip)]
    found = sorted(found, key=lambda chosen: (len(chosen), chosen))
    return [tuple([names[number] for number in numbers]) for numbers in found]


def sequence_counts(strip):
    """Return a dict from each length of a complete sequence to the number of those of this length."""
    check_strip(strip)
    larger = larger_sets(strip)
    everything = (1 << len(strip)) - 1
    # Entry k of a list is the number of sequences of k operations that remove a set.
    counts = {removed: [0] * (len(strip) + 1) for removed in larger}
    counts[0][0] = 1
    # A set is a smaller number than all sets that contain it, so its list is complete in time.
    for removed in sorted(larger):
        longer = [0, *counts[removed]]
        for following in larger[removed]:
            counts[following] = [one + other for one, other in zip(counts[following], longer)]
    return {length: many for length, many in enumerate(counts[everything]) if many > 0}


def first_names(strip):
    """Return the names that occur in the first operation of some complete sequence."""
    # Every applicable operation starts a complete sequence.
    first = [name for op in available_ops(strip) for name in op_names(op)]
    return [name for name in strip.names() if name in first]


def last_names(strip):
    """Return the names that occur in the last operation of some complete sequence."""
    check_strip(strip)
    bare = bare_strip(strip)
    names = bare.names()
    last = []
    for group in [(name,) for name in names] + list(combinations(names, 2)):
        joined = JoinedStrip(bare, [name for name in names if name not in group])
        if _rings_are_bare(joined):
            ops = [op for op in available_ops(joined.remaining()) if len(op_names(op)) == len(group)]
            last.extend([name for op in ops for name in op_names(op)])
    return [name for name in names if name in last]


def ops_leaving(strip, one, other):
    """Return operations that remove the name `other` and keep the name `one`, or None."""
    check_strip(strip)
    check_known([one, other], strip.names())
    if one == other:
        return None
    # What is left depends on the set of the names that are left only.
    reached = {}
    waiting = [([], bare_strip(strip))]
    while len(waiting) > 0:
        ops, left = waiting.pop()
        names = left.names()
        if other not in names:
            return ops
        if tuple(names) not in reached:
            reached[tuple(names)] = True
            waiting.extend([([*ops, op], apply_op(left, op)[0])
                            for op in available_ops(left) if one not in op_names(op)])
    return None


def ops_via(strip, names, more):
    """Return operations that remove some names, and operations that then remove the rest of more names."""
    smaller = JoinedStrip(strip, names)
    larger = JoinedStrip(strip, more)
    if not all([name in more for name in names]):
        raise InvalidNames(names)
    between = smaller.remaining()
    # This raises the error of names that are not removable.
    larger.remaining()
    rest = [name for name in more if name not in names]
    return (_ops_removing(strip, names), _ops_removing(between, rest))


def _rings_are_bare(joined):
    """Return True if no ring of a joined strip has a marker."""
    return all([len(ring) == 0 for ring in joined.rings()])


def _ops_removing(strip, names):
    """Return operations that remove exactly these names, which are removable."""
    ops = []
    goal = len(strip) - len(names)
    while len(strip) > goal:
        # Whatever came before, one of these is applicable as long as a name is left.
        possible = [op for op in available_ops(strip) if all([name in names for name in op_names(op)])]
        ops.append(possible[0])
        strip, _ = apply_op(strip, possible[0])
    return ops


def _numbers_in(removed, total):
    """Return the numbers of the names, out of so many, that are in a set of larger_sets."""
    return [number for number in range(total) if (removed >> number) & 1 == 1]
