"""What several test files share: values of every kind, sample rows, and plain oracles.

The oracles are written as the document words them, not as the package does it.
"""

import itertools
import random
import unittest

from markersplice.console import Console
from markersplice.crossings import CrossingTable
from markersplice.errors import (
    DuplicateName, InvalidMarker, InvalidName, InvalidNumber, InvalidPiece, InvalidRow, InvalidUser, InvalidWord,
    Locked, NotApplicable, NothingToUndo, TooMany, UnknownName, UnknownStrip, Unmatched, Unpaired,
)
from markersplice.joining import JoinedStrip
from markersplice.operations import apply_op, available_ops
from markersplice.strips import Ring, Strip
from markersplice.workspace import Workspace

# a and b cross, both enclose c, and d stands apart; a and c are direct, b and d inverted.
SAMPLE_ROW = (
    "a", ("a", True), "b", ("b", False), "", ("c", True), "cC", ("c", True), "",
    ("a", True), "Dd", ("b", True), "e", ("d", False), "", ("d", True), "f",
)


def any_values():
    """New values of every kind that point 7 allows for "any value"."""
    deep = "a"
    for _ in range(8):
        deep = [deep]
    deep_tuple = ("p", True)
    for _ in range(7):
        deep_tuple = (deep_tuple,)
    return [
        0, 1, 2, -1, 7, 10 ** 29, -(10 ** 29), 10 ** 30 - 1,
        "", "a", "p", "z", "zz", "abcd", "abcde", "P", "aB", "Ab", "pQ", "p1", "1", "_", " ",
        "a b", " a", "a ", "a\n", "\n", "p\n", "p+", "p-", "p q", "`", "{", "@", "[", "x" * 1000,
        True, False, None,
        [], [""], ["a"], ["a", "b"], ["p", True], ["a", ("p", True), "b"], [0, 1], [True], [None],
        (), ("",), ("a",), ("p",), ("p", True), ("p", False), ("P", True), ("p", 1), ("p", 0),
        ("p", None), ("p", "True"), ("", True), ("abcde", False), (True, "p"), ("p", True, True),
        ("p", [True]), (["p"], True), ("a", ("p", True), "b"),
        ("loop", "p"), ("swap", "p", "q"), ["loop", "p"], [("loop", "p")], (("flip", "p"), ("loop", "q")),
        ["p", "q"], ("p", "q"), ["p", "p"], (["a"], []), ([], {}, {}),
        {}, {"p": True}, {0: "a"}, {"a": ["b", ("p", True)]}, {("p", True): 1},
        deep, deep_tuple,
        Strip(["a"]), Strip(["", ("p", True), "", ("p", False), ""]),
        Ring(["a"]), Ring(["", ("p", True)]), [Ring(["a"])], (["a"], [Ring(["a"])]),
        CrossingTable([], []), CrossingTable(["p"], [[1]]), JoinedStrip(Strip(["a"]), []),
        JoinedStrip(Strip(["", ("p", True), "", ("p", True), ""]), ["p"]),
        Workspace(["a"]), Console(), InvalidPiece("a"), NotApplicable(("loop", "p"), None), NothingToUndo(),
    ]


def flat_letters(text):
    """Whether a string consists of letters only; True for the empty string."""
    letters = "abcdefghijklmnopqrstuvwxyz"
    return all(sign in letters + letters.upper() for sign in text)


def looks_like_name(value):
    return (type(value) is str and len(value) in (1, 2, 3, 4)
            and all(sign in "abcdefghijklmnopqrstuvwxyz" for sign in value))


def looks_like_piece(value):
    return type(value) is str and flat_letters(value)


def looks_like_marker(value):
    return (type(value) is tuple and len(value) == 2 and looks_like_name(value[0])
            and type(value[1]) is bool)


def looks_like_row(value):
    return (type(value) in (list, tuple) and len(value) % 2 == 1
            and all(looks_like_piece(item) for item in value[::2])
            and all(looks_like_marker(item) for item in value[1::2]))


def flipped_letters(piece):
    """A piece flipped, letter by letter."""
    lower = "abcdefghijklmnopqrstuvwxyz"
    upper = "ABCDEFGHIJKLMNOPQRSTUVWXYZ"
    turned = ""
    for letter in piece:
        if letter in lower:
            turned = upper[lower.index(letter)] + turned
        else:
            turned = lower[upper.index(letter)] + turned
    return turned


def flipped_item(item):
    if isinstance(item, str):
        return flipped_letters(item)
    return (item[0], item[1] is False)


def flipped_items(items):
    """Items flipped, the last one first."""
    return [flipped_item(item) for item in reversed(items)]


def sample_row(rng, markers, names, most_letters=3):
    """A row with so many markers, with names out of the given ones, however often."""
    row = [sample_piece(rng, most_letters)]
    for _ in range(markers):
        row.append((names[rng.randrange(len(names))], rng.randrange(2) == 1))
        row.append(sample_piece(rng, most_letters))
    return row


def sample_piece(rng, most_letters):
    return "".join("abABz"[rng.randrange(5)] for _ in range(rng.randrange(most_letters + 1)))


def sample_strip_row(rng, total):
    """A row in which each of so many names occurs exactly twice."""
    names = name_list(total) * 2
    rng.shuffle(names)
    row = [sample_piece(rng, 2)]
    for name in names:
        row.append((name, rng.randrange(2) == 1))
        row.append(sample_piece(rng, 2))
    return row


def name_list(total):
    """So many names, of one to four letters, that are not in the order of the alphabet."""
    names = ["q", "b", "zz", "a", "pqrs", "m", "xyz", "k", "ab", "c", "y", "bb", "w", "t", "uu", "d"]
    return names[:total]


def sample_rows():
    """Rows of many shapes; names occur in them once, twice and more often."""
    rng = random.Random(11)
    rows = [[""], ["a"], ["aB"], list(SAMPLE_ROW), ["", ("p", True), ""]]
    for markers in range(13):
        for names in (["p"], ["p", "q"], ["p", "q", "rs", "tuvw"], name_list(9)):
            rows.append(sample_row(rng, markers, names))
            rows.append(sample_row(rng, markers, names, 1))
    return rows


def sample_strip_rows():
    """Rows of strips with zero to twelve names."""
    rng = random.Random(22)
    rows = [[""], ["aB"], list(SAMPLE_ROW)]
    for total in range(13):
        for _ in range(8):
            rows.append(sample_strip_row(rng, total))
    return rows


def mixed_strip_rows():
    """Rows of strips with few inverted names, so that every kind of operation occurs."""
    rng = random.Random(44)
    rows = [[""], ["aB"], list(SAMPLE_ROW)]
    for total in (1, 2, 2, 3, 3, 4, 5, 6, 8, 10, 12):
        for upright in (1, 2, 5, 100):
            for _ in range(2):
                row = sample_strip_row(rng, total)
                for index in range(1, len(row), 2):
                    row[index] = (row[index][0], rng.randrange(upright + 1) != 0)
                rows.append(row)
    return rows


def ring_readings(row):
    """All readings of the ring of a reading, in both directions, as point 6 defines them."""
    if len(row) == 1:
        pieces = [row[0], flipped_letters(row[0])]
        return [[piece[at:] + piece[:at]] for piece in pieces for at in range(max(1, len(piece)))]
    other = flipped_items(row)
    # The flipped items start with a marker; a reading as in point 24 starts with a piece.
    turns = []
    for items in (list(row), other[1:] + other[:1]):
        turns.extend(items[at:] + items[:at] for at in range(0, len(items), 2))
    return turns


def reading_text(row):
    """The text of a ring reading, as point 32 words it."""
    items = list(row)
    if not isinstance(items[-1], str):
        items = [items[-1]] + items[:-1]
    return "( " + " ".join(item_text(item) for item in items) + " )"


def item_text(item):
    if isinstance(item, str):
        return item or "_"
    return item[0] + {True: "+", False: "-"}[item[1]]


def smallest_reading(row):
    """The canonical reading, found by comparing the texts of all readings."""
    return sorted(ring_readings(row), key=reading_text)[0]


def no_strips():
    """Values of every kind except strips."""
    return [value for value in any_values() if type(value) is not Strip]


def no_name_lists():
    """Values of every kind except lists and tuples of distinct names."""
    wrong = [["a", "a"], ("a", "b", "a"), ["z", "z"], "ab", {"a": 1}, ["a", "A"], ["z", 1], ("a", ["b"]), [""],
             ["a", True], [("a", "b")]]
    return [value for value in any_values() + wrong if not looks_like_names(value)]


def looks_like_names(value):
    """Whether a value is a list or tuple of distinct names."""
    right = type(value) in (list, tuple) and all(looks_like_name(item) for item in value)
    return right and len(set(value)) == len(value)


def places_in(row, name):
    """The numbers of the markers of a name in a row."""
    return tuple(number for number, marker in enumerate(row[1::2]) if marker[0] == name)


def names_in(row):
    """The names of a row, ordered by first marker."""
    names = []
    for name, _ in row[1::2]:
        if name not in names:
            names.append(name)
    return names


def cross_in(row, one, other):
    """Whether one, other, one, other or other, one, other, one is the order of the places."""
    order = [name for name, _ in row[1::2] if name in (one, other)]
    return order in ([one, other, one, other], [other, one, other, one]) and one != other


def inverted_in(row, name):
    """Whether the two markers of a name have different orientations."""
    return len({upright for other, upright in row[1::2] if other == name}) == 2


def renamed_row(row, new):
    """A row with other names, given as a dict from the old to the new ones."""
    return [item if isinstance(item, str) else (new[item[0]], item[1]) for item in row]


def other_names(rng, names):
    """A dict from each name to another name."""
    others = name_list(16)
    rng.shuffle(others)
    return dict(zip(names, others))


def small_rows():
    """Rows of strips with zero to six names, with operations of every kind."""
    rows = [row for row in mixed_strip_rows() + sample_strip_rows()[::2] if len(row) <= 25]
    return rows + [shaped_row(shape, total) for shape in SHAPES for total in range(7)]


SHAPES = ("apart", "nested", "crossing", "turned apart", "turned nested", "turned crossing")


def shaped_row(shape, total):
    """A row with so many names that are all apart, nested in each other or crossing each other.

    All names are direct or, with the word "turned", inverted.
    """
    names = name_list(total)
    order = {"apart": [name for name in names for _ in range(2)], "nested": names + names[::-1],
             "crossing": names + names}[shape.split(" ")[-1]]
    row = ["a"]
    for index, name in enumerate(order):
        row.extend([(name, not shape.startswith("turned") or name not in order[:index]), "bC"[:index % 3]])
    return row


def every_subset(names):
    """All sets of some names, as lists in their order."""
    return [list(chosen) for total in range(len(names) + 1) for chosen in itertools.combinations(names, total)]


def subsets(rng, names, most=12):
    """Some sets of names, each in any order; the empty one and all names are among them."""
    chosen = [[], list(names)]
    for _ in range(most):
        chosen.append(rng.sample(names, rng.randrange(len(names) + 1)))
    return chosen


def complete_run(rng, strip):
    """Any operations that remove all markers, with the strip and the rings after each of them.

    A list of tuples of the operations so far, the strip and the rings.
    """
    ops, rings = [], []
    states = [([], strip, [])]
    while len(strip):
        op = rng.choice(available_ops(strip))
        strip, ring = apply_op(strip, op)
        ops = ops + [op]
        rings = rings + ([] if ring is None else [ring])
        states.append((ops, strip, rings))
    return states


def every_sequence(strip):
    """Every sequence of operations that are applicable one after another, with the strip that it leaves."""
    yield [], strip
    for op in available_ops(strip):
        left, _ = apply_op(strip, op)
        for ops, last in every_sequence(left):
            yield [op] + ops, last


def complete_sequences(strip):
    """Every sequence of operations that removes all markers."""
    return [ops for ops, left in every_sequence(strip) if len(left) == 0]


def left_by(strip, value):
    """The strip that the operations of a value leave, or None if it is not a list or tuple of operations
    of which each is applicable to the result of the one before it."""
    if type(value) not in (list, tuple):
        return None
    for op in value:
        if not looks_like_op(op) or not set(op[1:]) <= set(strip.names()) or blockers_in(strip.row(), op):
            return None
        strip, _ = apply_op(strip, op)
    return strip


def removed_by(ops):
    """The names that operations remove."""
    return [name for op in ops for name in op[1:]]


def looks_like_op(value):
    """Whether a value is an operation, as point 41 words it."""
    if type(value) is not tuple or len(value) not in (2, 3) or type(value[0]) is not str:
        return False
    if not all(looks_like_name(name) for name in value[1:]):
        return False
    if len(value) == 2:
        return value[0] in ("loop", "flip")
    return value[0] == "swap" and value[1] != value[2]


def nearly_ops():
    """Operations, and what is nearly one."""
    found = []
    for kind in ("loop", "flip", "swap", "Loop", "loops", "", "lo", "join", None, True, 0, ["loop"], ("loop",), {}):
        for names in ((), ("p",), ("p", "q"), ("q", "p"), ("p", "p"), ("p", "q", "r"), ("p", None), ("P",), ("",),
                      ("abcde",), ("abcd",), ("p", "Q"), (["p"],), (("p", "q"),), (1,), (True, "q"), ("p+",), ({}, [])):
            found.append((kind, *names))
            found.append([kind, *names])
    return found + [(("loop", "p"),), ("p", "loop"), ("p", "swap", "q")]


def ops_of(names):
    """All operations with these names, in both orders of swaps."""
    pairs = itertools.permutations(names, 2)
    return [(kind, name) for name in names for kind in ("loop", "flip")] + [("swap", *pair) for pair in pairs]


def between_in(row, name):
    low, high = places_in(row, name)
    return [marker[0] for marker in row[1::2][low + 1:high]]


def blockers_in(row, op):
    """All blockers of an operation, the first that applies first, as point 43 words it."""
    found = []
    if op[0] == "flip":
        return [] if inverted_in(row, op[1]) else [("direct", op[1])]
    for name in op[1:]:
        if inverted_in(row, name):
            found.append(("inverted", name))
    if op[0] == "loop":
        return found + [("between", other) for other in between_in(row, op[1])]
    if not cross_in(row, op[1], op[2]):
        found.append(("uncrossed", op[1], op[2]))
    if places_in(row, op[1])[0] > places_in(row, op[2])[0]:
        found.append(("order", op[1], op[2]))
    return found


def changed_sequences(rng, ops, names):
    """Sequences that differ from the given one by one change."""
    values = any_values() + nearly_ops() + ops_of(names[:4])
    at = rng.randrange(len(ops) + 1)
    new = rng.choice(values)
    found = [ops[:at] + [new] + ops[at:], ops + [new], ops[:at] + ops[at + 1:]]
    if at < len(ops):
        other = rng.randrange(len(ops))
        exchanged = list(ops)
        exchanged[at], exchanged[other] = ops[other], ops[at]
        kind, *old = ops[at]
        found += [exchanged, ops[:at + 1] + ops[at:]]
        found += [ops[:at] + [item] + ops[at + 1:] for item in (new, list(ops[at]), (kind, *old[::-1]))]
    return found


class PlainWalk:
    """Rows under labels, joined at names, by walks from piece end to piece end as point 5 words it.

    Pieces are tuples of a label and a number, ends are tuples of "left" or "right" and a piece. What
    the walks find is kept as paths, rows (a ring's as a reading), and part_of.
    """

    def __init__(self, rows, names):
        self.letters = {(label, number): piece for label, row in rows for number, piece in enumerate(row[::2])}
        self.markers = [((label, number), (label, number + 1), *marker)
                        for label, row in rows for number, marker in enumerate(row[1::2])]
        self.next = {}
        for marker in self.markers:
            left, right, name, _ = marker
            if name not in names:
                self.next["right", left] = (("left", right), marker)
                self.next["left", right] = (("right", left), marker)
        for name in names:
            first, second = [marker for marker in self.markers if marker[2] == name]
            for one, other in ((self.before(first), self.after(second)), (self.before(second), self.after(first))):
                self.next[one] = (other, None)
                self.next[other] = (one, None)
        self.paths, self.rows = [], []
        self.part_of = {}

    def before(self, marker):
        return ("right", marker[0]) if marker[3] else ("left", marker[1])

    def after(self, marker):
        return ("left", marker[1]) if marker[3] else ("right", marker[0])

    def walk(self, start):
        """Walk from an end until the part ends or closes, and return the end at which the walk ends."""
        path, items = [], [""]
        end = start
        while True:
            side, piece = end
            path.append((piece, side == "right"))
            self.part_of[piece] = len(self.paths)
            letters = self.letters[piece]
            items[-1] += letters if side == "left" else flipped_letters(letters)
            leaving = ("right" if side == "left" else "left", piece)
            if leaving not in self.next:
                break
            end, marker = self.next[leaving]
            if marker is not None:
                items.extend([(marker[2], marker[3] if leaving[0] == "right" else not marker[3]), ""])
            if end == start:
                items[0] = items.pop() + items[0] if len(items) > 1 else items[0]
                break
        self.paths.append(path)
        self.rows.append(items)
        return leaving

    def walk_rings(self):
        """Walk along all parts that no walk has reached."""
        for piece in self.letters:
            if piece not in self.part_of:
                self.walk(("left", piece))


class PlainJoin:
    """A row joined at names: the paths and rows of its parts, part_of and edges."""

    def __init__(self, row, names):
        plain = PlainWalk([("", row)], names)
        plain.walk(("left", ("", 0)))
        plain.walk_rings()
        self.rows = plain.rows
        self.paths = [[(number, flipped) for (_, number), flipped in path] for path in plain.paths]
        self.part_of = {number: part for (_, number), part in plain.part_of.items()}
        self.edges = {name: tuple(plain.part_of[plain.before(marker)[1]] for marker in plain.markers
                                  if marker[2] == name) for name in names_in(row) if name in names}


def row_fault(row):
    """The error of point 12 for a value, as a tuple of its class and of what it keeps, or None."""
    if type(row) not in (list, tuple) or len(row) % 2 == 0:
        return (InvalidRow, row)
    for index, item in enumerate(row):
        if index % 2 == 0 and not looks_like_piece(item):
            return (InvalidPiece, item)
        if index % 2 == 1 and not looks_like_marker(item):
            return (InvalidMarker, item)
    return None


class PlainSpace:
    """A workspace as points 111 to 119 word it. Each answer is worked out from the actions that were done."""

    def __init__(self, users, actions=()):
        self.users = list(users)
        self.actions = list(actions)

    def rows(self):
        return [(action[1], action[2]) for action in self.actions if action[0] == "add"]

    def held(self, words, place):
        """What was added by the actions with the first word and not removed by later ones with the second."""
        held = []
        for action in self.actions:
            if action[0] in words:
                held = [item for item in held if item != action[place:]]
            if action[0] == words[0]:
                held.append(action[place:])
        return held

    def joined(self):
        held = [name for name, in self.held(("join", "unjoin"), 2)]
        return [name for name in self.names() if name in held]

    def locks(self):
        held = self.held(("lock", "unlock"), 1)
        return {user: [piece for piece in self.pieces() if (user, *piece) in held] for user in self.users}

    def pieces(self):
        return [(label, number) for label, row in self.rows() for number in range(len(row[::2]))]

    def all_names(self):
        return [name for _, row in self.rows() for name, _ in row[1::2]]

    def names(self):
        return list(dict.fromkeys(self.all_names()))

    def unmatched(self):
        return [name for name in self.names() if self.all_names().count(name) == 1]

    def walked(self):
        """The walks along all parts, and the two ends of each strand."""
        plain = PlainWalk(self.rows(), self.joined())
        ends = []
        for label, row in self.rows():
            for start in (("left", (label, 0)), ("right", (label, len(row) // 2))):
                if start not in [end for pair in ends for end in pair]:
                    ends.append((start, plain.walk(start)))
        plain.walk_rings()
        return plain, [tuple((label, 0 if side == "left" else 1) for side, (label, _) in pair) for pair in ends]

    def layout(self):
        plain, ends = self.walked()
        strands = [(*pair, row) for pair, row in zip(ends, plain.rows)]
        return (strands, [Ring(row) for row in plain.rows[len(ends):]])

    def told(self):
        """All that a workspace tells."""
        plain, _ = self.walked()
        return {"users": self.users, "strips": [label for label, _ in self.rows()],
                "rows": [list(row) for _, row in self.rows()], "names": self.names(), "joined": self.joined(),
                "unmatched": self.unmatched(), "locks": self.locks(), "layout": self.layout(),
                "len": len(plain.rows), "parts": [plain.part_of[piece] for piece in self.pieces()],
                "actions": [("add", action[1], list(action[2])) if action[0] == "add" else action
                            for action in self.actions]}

    def fault(self, action):
        """The error that an action raises, as a tuple of its class and of what it keeps, or None."""
        if action[0] == "add":
            return self.fault_of_row(action[1], action[2])
        if action[1] not in self.users:
            return (InvalidUser, action[1])
        if action[0] in ("lock", "unlock"):
            return self.fault_of_piece(*action)
        return self.fault_of_name(*action)

    def fault_of_row(self, strip, row):
        if not looks_like_name(strip):
            return (InvalidName, strip)
        if row_fault(row) is not None:
            return row_fault(row)
        if strip in [label for label, _ in self.rows()]:
            return (DuplicateName, strip)
        if len(self.rows()) == 4:
            return (TooMany, 5)
        names = self.all_names() + [name for name, _ in row[1::2]]
        for name, _ in row[1::2]:
            if names.count(name) > 2:
                return (Unpaired, name)
        return (TooMany, len(set(names))) if len(set(names)) > 20 else None

    def fault_of_piece(self, word, user, strip, number):
        if strip not in [label for label, _ in self.rows()]:
            return (UnknownStrip, strip)
        if type(number) is not int or (strip, number) not in self.pieces():
            return (InvalidNumber, number)
        if word == "lock":
            plain, _ = self.walked()
            return self.fault_of_locks(user, [plain.part_of[strip, number]])
        return None if (strip, number) in self.locks()[user] else (UnknownName, (strip, number))

    def fault_of_name(self, word, user, name):
        if word == "unjoin" and name not in self.joined():
            return (UnknownName, name)
        if word == "join" and (name not in self.names() or name in self.joined()):
            return (UnknownName, name)
        if name in self.unmatched():
            return (Unmatched, name)
        plain, _ = self.walked()
        pieces = [piece for marker in plain.markers if marker[2] == name for piece in marker[:2]]
        return self.fault_of_locks(user, [plain.part_of[piece] for piece in pieces])

    def fault_of_locks(self, user, parts):
        plain, _ = self.walked()
        locks = self.locks()
        for other in self.users:
            if other != user and any(plain.part_of[piece] in parts for piece in locks[other]):
                return (Locked, other)
        return None

    def perform(self, action):
        """Do an action that raises no error and return what its method returns."""
        before = len(self.walked()[0].rows)
        self.actions.append(action)
        return len(self.walked()[0].rows) - before if action[0] in ("join", "unjoin") else None


def space_told(space):
    """All that a workspace tells, in the form of PlainSpace."""
    rows = [space.row_of(strip) for strip in space.strips()]
    parts = [space.part_of(strip, number)
             for strip, row in zip(space.strips(), rows) for number in range(len(row[::2]))]
    return {"users": space.users(), "strips": space.strips(), "rows": rows, "names": space.names(),
            "joined": space.joined(), "unmatched": space.unmatched(), "locks": space.locks(), "layout": space.layout(),
            "len": len(space), "parts": parts, "actions": space.actions()}


def sample_actions(rng, users, total, wrong=0.1):
    """So many actions, most of which a workspace with these users accepts one after another.

    The rows have names that occur once or twice, also in two strips.
    """
    plain = PlainSpace(users)
    for _ in range(total):
        action = sample_action(rng, plain)
        while plain.fault(action) is not None and rng.random() >= wrong:
            action = sample_action(rng, plain)
        if plain.fault(action) is None:
            plain.perform(action)
        yield action


def sample_action(rng, plain):
    """An action that fits a workspace, or nearly."""
    word = rng.choice(["add", "lock", "unlock", "join", "join", "unjoin"] if plain.rows() else ["add"])
    labels = [label for label, _ in plain.rows()]
    if word == "add":
        free = [name for name in name_list(16) if plain.all_names().count(name) < 2]
        names = rng.sample(free, min(len(free), rng.randrange(5))) * rng.choice((1, 1, 2))
        rng.shuffle(names)
        row = [sample_piece(rng, 2)]
        for name in names:
            row.extend([(name, rng.random() < 0.6), sample_piece(rng, 2)])
        return ("add", rng.choice(["s", "t", "loop", "add", "u", "p"]), row)
    user = rng.choice(plain.users)
    if word in ("lock", "unlock"):
        held = plain.locks()[user]
        if word == "unlock" and held and rng.random() < 0.7:
            return (word, user, *rng.choice(held))
        label, row = rng.choice(plain.rows())
        return (word, user, label, rng.randrange(len(row[::2])))
    return (word, user, rng.choice(plain.names() + ["yyy"] + labels[:1]))


def first_kept(plain):
    """What Unreachable tells of a plain join, or None if no ring has a marker."""
    for number, row in enumerate(plain.rows[1:], 1):
        if len(row) > 1:
            return (number, smallest_reading(row)[-1][0])
    return None


class Case(unittest.TestCase):
    """A test case that can ask for an error of an exact class with the very object that was passed."""

    def assert_raises(self, error, value, call, /, *args, attribute="value", **named):
        try:
            call(*args, **named)
        except Exception as caught:
            self.assertIs(type(caught), error)
            held = getattr(caught, attribute)
            self.assertIs(held, value, f"{error.__name__} keeps {held!r} instead of {value!r}")
            return caught
        return self.fail(f"{error.__name__} was not raised")

    def assert_total(self, error, total, call, *args):
        """Like assert_raises, for an attribute that is a number."""
        with self.assertRaises(error) as caught:
            call(*args)
        self.assertIs(type(caught.exception), error)
        self.assertIs(type(caught.exception.total), int)
        self.assertEqual(caught.exception.total, total)

    def assert_word(self, position, call, text):
        """Ask for InvalidWord with this index, or tuple of two indices, of exact integers."""
        with self.assertRaises(InvalidWord, msg=repr(text)) as caught:
            call(text)
        self.assertIs(type(caught.exception), InvalidWord)
        found = caught.exception.position
        self.assertEqual(found, position, repr(text))
        self.assertIs(type(found), type(position))
        for number in found if isinstance(found, tuple) else [found]:
            self.assertIs(type(number), int)

    def assert_same_rings(self, rings, expected):
        """Ask for the same rings, each the same number of times, in any order."""
        for ring in rings:
            self.assertIs(type(ring), Ring)
        self.assertEqual(sorted(str(ring) for ring in rings), sorted(str(ring) for ring in expected))

    def assert_equality(self, one, other, expected):
        """Ask for the answer of == and of != from both sides."""
        self.assertIs(one == other, expected)
        self.assertIs(other == one, expected)
        self.assertIs(one != other, not expected)
        self.assertIs(other != one, not expected)
