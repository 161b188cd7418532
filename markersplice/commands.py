"""The commands of a console: which words they begin with, and what must follow."""

from markersplice.errors import InvalidLine
from markersplice.operations import is_op
from markersplice.rows import is_name
from markersplice.wording import is_number_word

# The forms of the words behind the first one, each of which gives one argument.
FORMS = {
    "strip": ("TEXT",), "apply": ("OPERATIONS",), "remove": ("NAMES",), "clear": (), "flip": (), "back": (),
    "show": (), "operations": (), "blocker": ("OPERATION",), "table": (), "components": (), "rank": ("NAMES",),
    "result": ("NAMES",), "edges": (), "removable": ("NAMES",), "counts": (), "first": (), "last": (),
    "loops": (), "count_loops": (), "tree": ("NAMES",), "makes": ("NAME", "NUMBER"), "kinds": ("WORDS",),
    "users": ("NAMES",), "load": ("TEXT",), "add": ("NAME", "TEXT"), "lock": ("NAME", "NAME", "NUMBER"),
    "unlock": ("NAME", "NAME", "NUMBER"), "join": ("NAME", "NAME"), "unjoin": ("NAME", "NAME"), "undo": (),
    "layout": (), "names": (), "joined": (), "unmatched": (), "locks": ("NAME",), "log": (),
}


def read_command(line):
    """Return a tuple of the first word of a command and of the list of its arguments."""
    if not isinstance(line, str) or "\n" in line:
        raise InvalidLine(line)
    word, *rest = line.split(" ")
    if word not in FORMS or "" in rest:
        raise InvalidLine(line)
    arguments = []
    for form in FORMS[word]:
        found = _read_form(form, rest)
        if found is None:
            raise InvalidLine(line)
        argument, rest = found
        arguments.append(argument)
    if len(rest) > 0:
        raise InvalidLine(line)
    return (word, arguments)


def _read_form(form, words):
    """Return a tuple of the argument that words begin with and of the words behind it, or None."""
    if form == "WORDS":
        return (words, [])
    if form == "NAMES":
        return (words, []) if all([is_name(word) for word in words]) else None
    if len(words) == 0:
        return None
    if form == "TEXT":
        return (" ".join(words), [])
    if form == "NAME":
        return (words[0], words[1:]) if is_name(words[0]) else None
    if form == "NUMBER":
        return (int(words[0]), words[1:]) if is_number_word(words[0]) else None
    if form == "OPERATION":
        return _read_op(words)
    return _read_ops(words)


def _read_op(words):
    """Return a tuple of the operation that words begin with and of the words behind it, or None."""
    total = 3 if words[0] == "swap" else 2
    op = tuple(words[:total])
    return (op, words[total:]) if is_op(op) else None


def _read_ops(words):
    """Return a tuple of the list of the operations that words consist of and of no words, or None."""
    ops = []
    while len(words) > 0:
        found = _read_op(words)
        if found is None:
            return None
        op, words = found
        ops.append(op)
    return (ops, [])
