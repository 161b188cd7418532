"""Which kinds of operations are enough to remove all markers of a strip."""

from markersplice.checks import check_strip, is_name_list
from markersplice.crossings import crossing_table
from markersplice.errors import InvalidKinds
from markersplice.joining import join_all
from markersplice.operations import KINDS, apply_op, available_ops, removes_all
from markersplice.rows import is_integer

# The kind of operation that each obstacle keeps from being left out.
NEEDED = {"inverted": "flip", "ring": "loop", "component": "swap"}


def suffices(strip, kinds):
    """Return True if operations of these kinds can remove all markers."""
    _check(strip, kinds)
    return _obstacle(strip, kinds) is None


def kinds_certificate(strip, kinds):
    """Return what shows that operations of these kinds can remove all markers, or that they cannot."""
    _check(strip, kinds)
    obstacle = _obstacle(strip, kinds)
    if obstacle is not None:
        return ("blocked", *obstacle)
    ops = []
    while len(strip) > 0:
        ops.append(_safe_op(strip))
        strip, _ = apply_op(strip, ops[-1])
    return ("operations", ops)


def is_kinds_certificate(strip, kinds, value):
    """Return True if a value shows that operations of these kinds can remove all markers, or that they cannot."""
    _check(strip, kinds)
    if not isinstance(value, tuple):
        return False
    if len(value) == 2 and value[0] == "operations":
        return removes_all(strip, value[1]) and all([op[0] in kinds for op in value[1]])
    if len(value) != 3 or value[0] != "blocked":
        return False
    _, reason, detail = value
    if not isinstance(reason, str) or reason not in NEEDED or NEEDED[reason] in kinds:
        return False
    if reason == "inverted":
        return detail in _inverted_names(strip)
    if reason == "ring":
        return is_integer(detail, 1, len(join_all(strip)))
    if not isinstance(detail, list) or not is_name_list(detail):
        return False
    return sorted(detail) in [sorted(names) for names in _direct_components(strip)]


def _check(strip, kinds):
    """Raise the error of a value that is no strip, or of one that is not a list or tuple of kinds."""
    check_strip(strip)
    if not isinstance(kinds, (list, tuple)) or not all([kind in KINDS for kind in kinds]):
        raise InvalidKinds(kinds)
    if len(set(kinds)) != len(kinds):
        raise InvalidKinds(kinds)


def _obstacle(strip, kinds):
    """Return the first reason why these kinds are not sufficient, with its detail, or None."""
    inverted = _inverted_names(strip)
    if NEEDED["inverted"] not in kinds and len(inverted) > 0:
        return ("inverted", inverted[0])
    if NEEDED["ring"] not in kinds and len(join_all(strip)) > 0:
        return ("ring", 1)
    components = _direct_components(strip)
    if NEEDED["component"] not in kinds and len(components) > 0:
        return ("component", components[0])
    return None


def _inverted_names(strip):
    return [name for name in strip.names() if not strip.is_direct(name)]


def _direct_components(strip):
    """Return the components of two or more names that are all direct."""
    return [names for names in crossing_table(strip).components()
            if len(names) > 1 and all([strip.is_direct(name) for name in names])]


def _safe_op(strip):
    """Return an operation of a sufficient kind after which the sufficient kinds are still sufficient."""
    inverted = _inverted_names(strip)
    if len(inverted) == 0:
        # Loops are applicable only if there are rings, and swaps only in direct components.
        # So what is applicable here is of a kind that is allowed.
        return available_ops(strip)[0]
    table = crossing_table(strip)
    # A flip at a name with the greatest score leaves no component of direct names behind.
    return ("flip", max(inverted, key=lambda name: _score(table, name)))


def _score(table, name):
    """Return how many direct names cross a name, less the inverted ones."""
    return sum([1 - 2 * table.entry(other, other) for other in table.neighbors(name)])
