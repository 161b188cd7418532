"""A workspace in which several users lock, join and unjoin strips."""

from markersplice.checks import is_name_list
from markersplice.errors import (
    DuplicateName, InvalidName, InvalidNames, InvalidNumber, InvalidOperation, InvalidUser, Locked, NothingToUndo,
    TooMany, UnknownName, UnknownStrip, Unmatched, Unpaired,
)
from markersplice.layouts import Layout
from markersplice.rows import check_row, is_integer, is_name, places_by_name

MAX_STRIPS = 4
MAX_NAMES = 20
MOST_USERS = 3

# The words of actions, each with the number of items behind it.
ACTION_ITEMS = {"add": 2, "lock": 3, "unlock": 3, "join": 2, "unjoin": 2}


class Workspace:
    """Strips under labels, the names at which they are joined, and the pieces that users have locked.

    What it holds at one time is kept in lists and dicts that never change: an action puts
    others in their place and keeps the old ones, so that it can be undone.
    """

    def __init__(self, users):
        if not is_name_list(users) or not 1 <= len(users) <= MOST_USERS:
            raise InvalidNames(users)
        self._users = list(users)
        # The rows under their labels, the joined names, and the locked pieces of each user.
        self._rows = {}
        self._joined = []
        self._locks = {user: [] for user in users}
        self._layout = Layout({}, [])
        # Each action that can be undone, with what the workspace held before it.
        self._past = []

    def add_strip(self, strip, row):
        """Add a row under a name."""
        if not is_name(strip):
            raise InvalidName(strip)
        check_row(row)
        if strip in self._rows:
            raise DuplicateName(strip)
        if len(self._rows) >= MAX_STRIPS:
            raise TooMany(len(self._rows) + 1)
        self._check_markers(row)
        self._keep(("add", strip, tuple(row)))
        self._rows = {**self._rows, strip: list(row)}
        self._layout = Layout(self._rows, self._joined)

    def lock(self, user, strip, number):
        """Lock a piece for a user, and with it the strand or ring that contains it."""
        self._check_user(user)
        self._check_piece(strip, number)
        piece = (strip, number)
        self._check_locks(user, [self._layout.part_of(piece)])
        self._keep(("lock", user, strip, number))
        others = self._locks_without(user, piece)
        self._locks = {**self._locks, user: [*others, piece]}

    def unlock(self, user, strip, number):
        """Release a piece that a user has locked."""
        self._check_user(user)
        self._check_piece(strip, number)
        piece = (strip, number)
        if piece not in self._locks[user]:
            raise UnknownName(piece)
        self._keep(("unlock", user, strip, number))
        self._locks = {**self._locks, user: self._locks_without(user, piece)}

    def join(self, user, name):
        """Join the workspace at a name and return the change of its length."""
        self._check_user(user)
        if name not in self.names() or name in self._joined:
            raise UnknownName(name)
        if name in self.unmatched():
            raise Unmatched(name)
        self._check_locks(user, self._layout.parts_beside(name))
        self._keep(("join", user, name))
        return self._join_at([*self._joined, name])

    def unjoin(self, user, name):
        """Undo the join at a name and return the change of the length."""
        self._check_user(user)
        if name not in self._joined:
            raise UnknownName(name)
        # The two joints consist of the four piece ends beside the markers.
        self._check_locks(user, self._layout.parts_beside(name))
        self._keep(("unjoin", user, name))
        return self._join_at([other for other in self._joined if other != name])

    def undo(self):
        """Revert the last action that has not been reverted."""
        if len(self._past) == 0:
            raise NothingToUndo()
        _, rows, joined, locks, layout = self._past.pop()
        self._rows, self._joined, self._locks, self._layout = rows, joined, locks, layout

    def perform(self, action):
        """Perform an action that is given as a tuple, and return what its method returns."""
        if not _is_action(action):
            raise InvalidOperation(action)
        word, *rest = action
        if word == "add":
            return self.add_strip(rest[0], rest[1])
        if word == "lock":
            return self.lock(rest[0], rest[1], rest[2])
        if word == "unlock":
            return self.unlock(rest[0], rest[1], rest[2])
        if word == "join":
            return self.join(rest[0], rest[1])
        return self.unjoin(rest[0], rest[1])

    def actions(self):
        """Return the actions that have not been reverted, as tuples."""
        done = [step[0] for step in self._past]
        return [("add", action[1], list(action[2])) if action[0] == "add" else action for action in done]

    def layout(self):
        """Return a tuple of the list of the strands and of the list of the rings."""
        return (self._layout.strands(), self._layout.rings())

    def users(self):
        """Return the users."""
        return list(self._users)

    def strips(self):
        """Return the names of the strips, in the order in which they were added."""
        return list(self._rows)

    def row_of(self, strip):
        """Return the row of a strip as it was added."""
        self._check_strip_name(strip)
        return list(self._rows[strip])

    def names(self):
        """Return the names of all markers, in the order of their first occurrence."""
        return list(self._counts())

    def joined(self):
        """Return the names at which the workspace is joined, in the order of all names."""
        return [name for name in self.names() if name in self._joined]

    def unmatched(self):
        """Return the names that have one marker only, in the order of all names."""
        counts = self._counts()
        return [name for name in counts if counts[name] == 1]

    def locks(self):
        """Return a dict from each user to the list of the pieces that the user has locked."""
        pieces = [(strip, number) for strip in self._rows for number in range(len(self._rows[strip][::2]))]
        return {user: [piece for piece in pieces if piece in self._locks[user]] for user in self._users}

    def part_of(self, strip, number):
        """Return the position, through the strands and then the rings, of the one that contains a piece."""
        self._check_piece(strip, number)
        return self._layout.part_of((strip, number))

    def clone(self):
        """Return an equal workspace that has the same actions to undo."""
        twin = Workspace(self._users)
        twin._rows, twin._joined, twin._locks, twin._layout = self._rows, self._joined, self._locks, self._layout
        twin._past = list(self._past)
        return twin

    def _keep(self, action):
        """Keep an action and what the workspace holds before it."""
        self._past.append((action, self._rows, self._joined, self._locks, self._layout))

    def _join_at(self, names):
        """Join the workspace at these names only and return the change of its length."""
        before = len(self._layout)
        self._joined = names
        self._layout = Layout(self._rows, names)
        return len(self._layout) - before

    def _counts(self):
        """Return a dict from the name of each marker to the number of its markers."""
        return _marker_counts(list(self._rows.values()))

    def _locks_without(self, user, piece):
        return [other for other in self._locks[user] if other != piece]

    def _check_user(self, user):
        if user not in self._users:
            raise InvalidUser(user)

    def _check_strip_name(self, strip):
        # What is no name may have no hash, so it is not looked up in the dict.
        if not is_name(strip) or strip not in self._rows:
            raise UnknownStrip(strip)

    def _check_piece(self, strip, number):
        self._check_strip_name(strip)
        if not is_integer(number, 0, len(self._rows[strip]) // 2):
            raise InvalidNumber(number)

    def _check_markers(self, row):
        """Raise the error of a row that would give the workspace too many markers or names."""
        counts = _marker_counts(list(self._rows.values()) + [row])
        for name in places_by_name(row):
            if counts[name] > 2:
                raise Unpaired(name)
        if len(counts) > MAX_NAMES:
            raise TooMany(len(counts))

    def _check_locks(self, user, parts):
        """Raise the error of the first other user who has locked one of these parts."""
        for other in self._users:
            locked = [self._layout.part_of(piece) for piece in self._locks[other]]
            if other != user and any([part in parts for part in locked]):
                raise Locked(other)

    def _told(self):
        """Return what equal workspaces have in common."""
        return (self._users, list(self._rows.items()), self.joined(), self.locks())

    def __len__(self):
        return len(self._layout)

    def __eq__(self, other):
        return isinstance(other, Workspace) and self._told() == other._told()

    def __str__(self):
        return " ".join(["workspace of", *self._users, "with", *self.strips()])

    def __repr__(self):
        return f"Workspace({str(self)})"


def _is_action(value):
    """Return True if a value is a tuple of the word of an action and of as many items as it has."""
    if not isinstance(value, tuple) or len(value) == 0 or not isinstance(value[0], str):
        return False
    return value[0] in ACTION_ITEMS and len(value) == 1 + ACTION_ITEMS[value[0]]


def _marker_counts(rows):
    """Return a dict from each name, by its first marker, to the number of its markers in rows."""
    counts = {}
    for row in rows:
        for name, _ in row[1::2]:
            counts[name] = counts.get(name, 0) + 1
    return counts
