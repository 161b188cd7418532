"""What several test files share: values of every kind, sample rows, and plain oracles.

The oracles are written as the document words them, not as the package does it.
"""

import random
import unittest

from markersplice.errors import InvalidPiece, NotApplicable, NothingToUndo
from markersplice.strips import Ring, Strip

# a and b cross, both enclose c, and d stands apart; a and c are direct, b and d inverted.
SAMPLE_ROW = (
    "a", ("a", True), "b", ("b", False), "", ("c", True), "cC", ("c", True), "",
    ("a", True), "Dd", ("b", True), "e", ("d", False), "", ("d", True), "f",
)


def any_values():
    """New values of every kind that point 7 allows for "any value"."""
    deep = "a"
    for _ in range(8):
        deep = [deep]
    deep_tuple = ("p", True)
    for _ in range(7):
        deep_tuple = (deep_tuple,)
    return [
        0, 1, 2, -1, 7, 10 ** 29, -(10 ** 29), 10 ** 30 - 1,
        "", "a", "p", "z", "zz", "abcd", "abcde", "P", "aB", "Ab", "pQ", "p1", "1", "_", " ",
        "a b", " a", "a ", "a\n", "\n", "p\n", "p+", "p-", "p q", "`", "{", "@", "[", "x" * 1000,
        True, False, None,
        [], [""], ["a"], ["a", "b"], ["p", True], ["a", ("p", True), "b"], [0, 1], [True], [None],
        (), ("",), ("a",), ("p",), ("p", True), ("p", False), ("P", True), ("p", 1), ("p", 0),
        ("p", None), ("p", "True"), ("", True), ("abcde", False), (True, "p"), ("p", True, True),
        ("p", [True]), (["p"], True), ("a", ("p", True), "b"),
        ("loop", "p"), ("swap", "p", "q"),
        {}, {"p": True}, {0: "a"}, {"a": ["b", ("p", True)]}, {("p", True): 1},
        deep, deep_tuple,
        Strip(["a"]), Strip(["", ("p", True), "", ("p", False), ""]),
        Ring(["a"]), Ring(["", ("p", True)]),
        InvalidPiece("a"), NotApplicable(("loop", "p"), None), NothingToUndo(),
    ]


def flat_letters(text):
    """Whether a string consists of letters only; True for the empty string."""
    letters = "abcdefghijklmnopqrstuvwxyz"
    return all(sign in letters + letters.upper() for sign in text)


def looks_like_name(value):
    return (type(value) is str and len(value) in (1, 2, 3, 4)
            and all(sign in "abcdefghijklmnopqrstuvwxyz" for sign in value))


def looks_like_piece(value):
    return type(value) is str and flat_letters(value)


def looks_like_marker(value):
    return (type(value) is tuple and len(value) == 2 and looks_like_name(value[0])
            and type(value[1]) is bool)


def flipped_letters(piece):
    """A piece flipped, letter by letter."""
    lower = "abcdefghijklmnopqrstuvwxyz"
    upper = "ABCDEFGHIJKLMNOPQRSTUVWXYZ"
    turned = ""
    for letter in piece:
        if letter in lower:
            turned = upper[lower.index(letter)] + turned
        else:
            turned = lower[upper.index(letter)] + turned
    return turned


def flipped_item(item):
    if isinstance(item, str):
        return flipped_letters(item)
    return (item[0], item[1] is False)


def flipped_items(items):
    """Items flipped, the last one first."""
    return [flipped_item(item) for item in reversed(items)]


def sample_row(rng, markers, names, most_letters=3):
    """A row with so many markers, with names out of the given ones, however often."""
    row = [sample_piece(rng, most_letters)]
    for _ in range(markers):
        row.append((names[rng.randrange(len(names))], rng.randrange(2) == 1))
        row.append(sample_piece(rng, most_letters))
    return row


def sample_piece(rng, most_letters):
    return "".join("abABz"[rng.randrange(5)] for _ in range(rng.randrange(most_letters + 1)))


def sample_strip_row(rng, total):
    """A row in which each of so many names occurs exactly twice."""
    names = name_list(total) * 2
    rng.shuffle(names)
    row = [sample_piece(rng, 2)]
    for name in names:
        row.append((name, rng.randrange(2) == 1))
        row.append(sample_piece(rng, 2))
    return row


def name_list(total):
    """So many names, of one to four letters, that are not in the order of the alphabet."""
    names = ["q", "b", "zz", "a", "pqrs", "m", "xyz", "k", "ab", "c", "y", "bb", "w", "t", "uu", "d"]
    return names[:total]


def sample_rows():
    """Rows of many shapes; names occur in them once, twice and more often."""
    rng = random.Random(11)
    rows = [[""], ["a"], ["aB"], list(SAMPLE_ROW), ["", ("p", True), ""]]
    for markers in range(13):
        for names in (["p"], ["p", "q"], ["p", "q", "rs", "tuvw"], name_list(9)):
            rows.append(sample_row(rng, markers, names))
            rows.append(sample_row(rng, markers, names, 1))
    return rows


def sample_strip_rows():
    """Rows of strips with zero to twelve names."""
    rng = random.Random(22)
    rows = [[""], ["aB"], list(SAMPLE_ROW)]
    for total in range(13):
        for _ in range(8):
            rows.append(sample_strip_row(rng, total))
    return rows


def ring_readings(row):
    """All readings of the ring of a reading, in both directions, as point 6 defines them."""
    if len(row) == 1:
        pieces = [row[0], flipped_letters(row[0])]
        return [[piece[at:] + piece[:at]] for piece in pieces for at in range(max(1, len(piece)))]
    other = flipped_items(row)
    # The flipped items start with a marker; a reading as in point 24 starts with a piece.
    turns = []
    for items in (list(row), other[1:] + other[:1]):
        turns.extend(items[at:] + items[:at] for at in range(0, len(items), 2))
    return turns


def reading_text(row):
    """The text of a ring reading, as point 32 words it."""
    items = list(row)
    if not isinstance(items[-1], str):
        items = [items[-1]] + items[:-1]
    return "( " + " ".join(item_text(item) for item in items) + " )"


def item_text(item):
    if isinstance(item, str):
        return item or "_"
    return item[0] + {True: "+", False: "-"}[item[1]]


def smallest_reading(row):
    """The canonical reading, found by comparing the texts of all readings."""
    return sorted(ring_readings(row), key=reading_text)[0]


class Case(unittest.TestCase):
    """A test case that can ask for an error of an exact class with the very object that was passed."""

    def assert_raises(self, error, value, call, *args, attribute="value", **named):
        try:
            call(*args, **named)
        except Exception as caught:
            self.assertIs(type(caught), error)
            held = getattr(caught, attribute)
            self.assertIs(held, value, f"{error.__name__} keeps {held!r} instead of {value!r}")
            return caught
        return self.fail(f"{error.__name__} was not raised")

    def assert_total(self, error, total, call, *args):
        """Like assert_raises, for an attribute that is a number."""
        with self.assertRaises(error) as caught:
            call(*args)
        self.assertIs(type(caught.exception), error)
        self.assertIs(type(caught.exception.total), int)
        self.assertEqual(caught.exception.total, total)

    def assert_equality(self, one, other, expected):
        """Ask for the answer of == and of != from both sides."""
        self.assertIs(one == other, expected)
        self.assertIs(other == one, expected)
        self.assertIs(one != other, not expected)
        self.assertIs(other != one, not expected)
