"""Checks of arguments that several files share."""

from markersplice.errors import InvalidNames, InvalidStrip, UnknownName
from markersplice.rows import is_name
from markersplice.strips import Ring, Strip


def check_strip(value):
    """Raise the error of a value that is not a strip."""
    if not isinstance(value, Strip):
        raise InvalidStrip(value)


def is_name_list(value):
    """Return True if a value is a list or tuple of distinct names."""
    if not isinstance(value, (list, tuple)):
        return False
    # What is no name may have no hash, so all are names before they are put into a set.
    return all([is_name(item) for item in value]) and len(set(value)) == len(value)


def check_names(value):
    """Raise the error of a value that is not a list or tuple of distinct names."""
    if not is_name_list(value):
        raise InvalidNames(value)


def check_known(names, known):
    """Raise the error of the first of some names that is not among the known ones."""
    for name in names:
        if name not in known:
            raise UnknownName(name)


def is_ring_list(value):
    """Return True if a value is a list or tuple that contains only rings."""
    return isinstance(value, (list, tuple)) and all([isinstance(item, Ring) for item in value])
