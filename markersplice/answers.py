"""The output of a console, and its answers about a strip."""

from markersplice.crossings import crossing_table
from markersplice.errors import Unreachable
from markersplice.joining import JoinedStrip, edges
from markersplice.kinds import kinds_certificate
from markersplice.operations import available_ops, blocker
from markersplice.removal import first_names, last_names, ops_for, sequence_counts
from markersplice.texts import parts_text
from markersplice.trees import loop_certificate, loop_set_count, loop_sets, ring_certificate

NOTHING = "-"
DONE = "ok"


def sentence(value):
    """Return the words and numbers of a value, however they are nested, one after another."""
    words = _words_in(value)
    return " ".join(words) if len(words) > 0 else NOTHING


def groups(values):
    """Return the words and numbers of several values, with a separator between any two of them."""
    return " / ".join([sentence(value) for value in values]) if len(values) > 0 else NOTHING


def one_line(text):
    """Return a text with separators in place of line feeds."""
    return text.replace("\n", " / ") if len(text) > 0 else NOTHING


def parts_line(row, rings):
    """Return the text of a row and of rings, on one line."""
    return one_line(parts_text(row, rings))


def show_operations(strip):
    """Return the applicable operations."""
    return sentence(available_ops(strip))


def show_blocker(strip, op):
    """Return what keeps an operation from being applicable."""
    found = blocker(strip, op)
    return NOTHING if found is None else sentence(found)


def show_table(strip):
    """Return the crossing table."""
    return one_line(str(crossing_table(strip)))


def show_components(strip):
    """Return the components."""
    return groups(crossing_table(strip).components())


def show_rank(strip, names):
    """Return the rank of the crossing table of these names."""
    return sentence(crossing_table(strip).subtable(names).rank())


def show_result(strip, names):
    """Return the row and the rings to which joining at these names leads."""
    joined = JoinedStrip(strip, names)
    return parts_line(joined.row(), joined.rings())


def show_edges(strip):
    """Return the names, each with the two parts that it connects in the final result."""
    return groups(list(edges(strip).items()))


def show_removable(strip, names):
    """Return whether operations can remove exactly these names, and if not, which ring blocks them."""
    try:
        ops_for(strip, names)
    except Unreachable as caught:
        return sentence(("no", caught.ring, caught.name))
    return "yes"


def show_counts(strip):
    """Return the lengths of complete sequences, each with the number of those of this length."""
    return groups(list(sequence_counts(strip).items()))


def show_first(strip):
    """Return the names in the first operations of complete sequences."""
    return sentence(first_names(strip))


def show_last(strip):
    """Return the names in the last operations of complete sequences."""
    return sentence(last_names(strip))


def show_loops(strip):
    """Return the loop sets."""
    return groups(loop_sets(strip))


def show_loop_count(strip):
    """Return the number of loop sets."""
    return sentence(loop_set_count(strip))


def show_tree(strip, names):
    """Return the certificate of whether names are a loop set."""
    return sentence(loop_certificate(strip, names))


def show_makes(strip, name, ring):
    """Return the certificate of whether a loop at a name can make a ring."""
    return sentence(ring_certificate(strip, name, ring))


def show_kinds(strip, kinds):
    """Return the certificate of whether these kinds of operations are sufficient."""
    return sentence(kinds_certificate(strip, kinds))


# The commands that ask about a strip.
QUERIES = {
    "operations": show_operations, "blocker": show_blocker, "table": show_table, "components": show_components,
    "rank": show_rank, "result": show_result, "edges": show_edges, "removable": show_removable,
    "counts": show_counts, "first": show_first, "last": show_last, "loops": show_loops,
    "count_loops": show_loop_count, "tree": show_tree, "makes": show_makes, "kinds": show_kinds,
}


def answer(word, strip, arguments):
    """Return the output of one of the commands that ask about a strip."""
    action = QUERIES[word]
    return action(strip, *arguments)


def _words_in(value):
    """Return the words and numbers of a value, in order, as strings."""
    if isinstance(value, (list, tuple)):
        return [word for item in value for word in _words_in(item)]
    return [str(value)]
