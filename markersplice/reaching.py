"""Which sets of names operations remove, found by trying all operations."""

from markersplice.operations import apply_op, available_ops
from markersplice.strips import Strip


def bare_strip(strip):
    """Return a strip with the same markers and empty pieces, to which the same operations are applicable."""
    row = strip.row()
    return Strip([item if index % 2 == 1 else "" for index, item in enumerate(row)])


def larger_sets(strip):
    """Return a dict from each removable set to the list of the sets to which its next operations lead.

    A set of names is an integer here: bit k stands for the name with index k. A set stands in
    a list as often as there are operations that lead to it.
    """
    bits = {name: 1 << index for index, name in enumerate(strip.names())}
    larger = {0: []}
    waiting = [(0, bare_strip(strip))]
    while len(waiting) > 0:
        removed, left = waiting.pop()
        for op in available_ops(left):
            following = removed + sum([bits[name] for name in op[1:]])
            larger[removed].append(following)
            if following not in larger:
                larger[following] = []
                waiting.append((following, apply_op(left, op)[0]))
    return larger
