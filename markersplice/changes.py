"""The commands of a console that apply operations to its strip or flip it."""

from markersplice.answers import DONE, groups, sentence
from markersplice.operations import apply_all
from markersplice.removal import ops_for


def apply_ops(strip, ops):
    """Apply operations and show the rings that they cut out."""
    left, cut = apply_all(strip, ops)
    return (left, cut, groups(cut))


def remove_names(strip, names):
    """Remove exactly these names and show the operations that do it."""
    ops = ops_for(strip, names)
    left, cut = apply_all(strip, ops)
    return (left, cut, sentence(ops))


def remove_all_names(strip):
    """Remove all names and show the operations that do it."""
    return remove_names(strip, strip.names())


def flip_strip(strip):
    """Flip the strip."""
    return (strip.flipped(), [], DONE)


CHANGES = {"apply": apply_ops, "remove": remove_names, "clear": remove_all_names, "flip": flip_strip}


def changed_strip(word, strip, arguments):
    """Return the strip to which one of these commands leads, the rings that it cuts out, and its output."""
    action = CHANGES[word]
    return action(strip, *arguments)
