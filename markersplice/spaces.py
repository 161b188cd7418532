"""The commands of a console that change its workspace or ask about it."""

from markersplice.answers import DONE, groups, one_line, sentence
from markersplice.errors import InvalidUser
from markersplice.history import dump_history
from markersplice.texts import parse_row, row_text


def add_strip(space, strip, text):
    """Add the row that a text describes."""
    space.add_strip(strip, parse_row(text))
    return DONE


def lock_piece(space, user, strip, number):
    """Lock a piece for a user."""
    space.lock(user, strip, number)
    return DONE


def unlock_piece(space, user, strip, number):
    """Release a piece of a user."""
    space.unlock(user, strip, number)
    return DONE


def join_name(space, user, name):
    """Join at a name and show how the number of strands and rings changes."""
    return sentence(space.join(user, name))


def unjoin_name(space, user, name):
    """Undo the join at a name and show how the number of strands and rings changes."""
    return sentence(space.unjoin(user, name))


def undo_action(space):
    """Undo the last action."""
    space.undo()
    return DONE


def show_layout(space):
    """Return the strands, each with its two ends, and the rings."""
    strands, rings = space.layout()
    return groups([(one, other, row_text(row)) for one, other, row in strands] + rings)


def show_names(space):
    """Return the names of all markers."""
    return sentence(space.names())


def show_joined(space):
    """Return the joined names."""
    return sentence(space.joined())


def show_unmatched(space):
    """Return the names that have one marker only."""
    return sentence(space.unmatched())


def show_locks(space, user):
    """Return the pieces that a user holds."""
    locks = space.locks()
    if user not in locks:
        raise InvalidUser(user)
    return groups(locks[user])


def show_log(space):
    """Return the history."""
    return one_line(dump_history(space))


SPACE_COMMANDS = {
    "add": add_strip, "lock": lock_piece, "unlock": unlock_piece, "join": join_name, "unjoin": unjoin_name,
    "undo": undo_action, "layout": show_layout, "names": show_names, "joined": show_joined,
    "unmatched": show_unmatched, "locks": show_locks, "log": show_log,
}


def space_output(word, space, arguments):
    """Do one of these commands in a workspace and return its output."""
    action = SPACE_COMMANDS[word]
    return action(space, *arguments)
