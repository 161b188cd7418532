"""Operations: telling which are applicable to a strip, and applying them."""

from markersplice.checks import check_known, check_strip, is_name_list
from markersplice.errors import InvalidOperation, NotApplicable
from markersplice.rows import concatenated, flip_row
from markersplice.strips import Ring, Strip

KINDS = ("loop", "flip", "swap")


def is_op(value):
    """Return True if a value has the form of an operation."""
    if not isinstance(value, tuple) or len(value) == 0:
        return False
    kind, *names = value
    if kind not in KINDS or len(names) != (2 if kind == "swap" else 1):
        return False
    return is_name_list(names)


def op_names(op):
    """Return the names of an operation, in their order."""
    if not is_op(op):
        raise InvalidOperation(op)
    return list(op[1:])


def blocker(strip, op):
    """Return the first of what keeps an operation from being applicable, or None."""
    found = _checked_blockers(strip, op)
    return found[0] if len(found) > 0 else None


def is_blocker(strip, op, value):
    """Return True if a value is one of all that keep an operation from being applicable."""
    return value in _checked_blockers(strip, op)


def available_ops(strip):
    """Return all applicable operations, ordered by the first place of their first name."""
    check_strip(strip)
    direct = [name for name in strip.names() if strip.is_direct(name)]
    found = []
    for name in strip.names():
        if name not in direct:
            found.append(("flip", name))
            continue
        if len(strip.names_between(name)) == 0:
            found.append(("loop", name))
        # Only the swaps with a later second name can be applicable.
        later = direct[direct.index(name) + 1:]
        found.extend([("swap", name, other) for other in later if strip.crosses(name, other)])
    return found


def apply_op(strip, op):
    """Return the strip to which an operation leads, and the ring that it cuts out, or None."""
    found = blocker(strip, op)
    if found is not None:
        raise NotApplicable(op, found)
    return _applied(strip, op)


def apply_all(strip, ops):
    """Return the strip to which operations lead, and the list of the rings that they cut out."""
    _check_strip_and_list(strip, ops)
    rings = []
    for op in ops:
        strip, ring = apply_op(strip, op)
        if ring is not None:
            rings.append(ring)
    return (strip, rings)


def applicable_count(strip, ops):
    """Return how many items, from the first one on, can be applied one after another."""
    _check_strip_and_list(strip, ops)
    count, _ = _applied_while_possible(strip, ops)
    return count


def removes_all(strip, value):
    """Return True if a value holds operations that, one after another, remove all markers."""
    check_strip(strip)
    if not isinstance(value, (list, tuple)):
        return False
    count, last = _applied_while_possible(strip, value)
    return count == len(value) and len(last) == 0


def _check_strip_and_list(strip, ops):
    check_strip(strip)
    if not isinstance(ops, (list, tuple)):
        raise InvalidOperation(ops)


def _checked_blockers(strip, op):
    """Return all blockers of an operation, the first one first, or raise the first error."""
    check_strip(strip)
    check_known(op_names(op), strip.names())
    return _blockers(strip, op)


def _blockers(strip, op):
    """Return all blockers of an operation with names of the strip, the first one first."""
    kind, *names = op
    if kind == "flip":
        return [("direct", name) for name in names if strip.is_direct(name)]
    found = [("inverted", name) for name in names if not strip.is_direct(name)]
    if kind == "loop":
        return found + [("between", other) for other in strip.names_between(names[0])]
    first, second = names
    if not strip.crosses(first, second):
        found.append(("uncrossed", first, second))
    if strip.places(first)[0] > strip.places(second)[0]:
        found.append(("order", first, second))
    return found


def _applied(strip, op):
    """Return the strip to which an applicable operation leads, and its ring or None."""
    places = []
    for name in op[1:]:
        places.extend(strip.places(name))
    sections = _sections(strip.row(), sorted(places))
    if op[0] == "loop":
        left, ring, right = sections
        return (Strip(concatenated([left, right])), Ring(ring))
    if op[0] == "flip":
        left, middle, right = sections
        return (Strip(concatenated([left, flip_row(middle), right])), None)
    left, first, middle, second, right = sections
    return (Strip(concatenated([left, second, middle, first, right])), None)


def _sections(row, places):
    """Return the rows into which a row is cut at the markers with these numbers."""
    sections = []
    start = 0
    for place in places:
        sections.append(row[start:2 * place + 1])
        start = 2 * place + 2
    sections.append(row[start:])
    return sections


def _applied_while_possible(strip, items):
    """Return how many items can be applied one after another, and the strip that they leave."""
    count = 0
    for item in items:
        if not _is_applicable(strip, item):
            break
        strip, _ = _applied(strip, item)
        count += 1
    return (count, strip)


def _is_applicable(strip, value):
    """Return True if a value is an operation that is applicable to a strip."""
    if not is_op(value):
        return False
    names = strip.names()
    return all([name in names for name in value[1:]]) and len(_blockers(strip, value)) == 0
