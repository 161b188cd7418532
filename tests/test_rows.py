"""Points 2, 3 and 11 to 15, with 7 and 8 as far as they speak of rows."""

import copy
import random
import unittest

from markersplice.errors import InvalidMarker, InvalidNumbers, InvalidPiece, InvalidRow
from markersplice.rows import (
    clean_row, flip_marker, flip_piece, flip_row, is_integer, is_marker, is_name, is_piece, is_row,
    without_markers,
)
from markersplice.strips import Ring, Strip
from support import (
    Case, any_values, flipped_item, flipped_items, flipped_letters, looks_like_marker,
    looks_like_name, looks_like_piece, sample_row, sample_rows,
)

P = ("p", True)
Q = ("q", False)

# Values that are no rows, as they have no odd length or are no lists or tuples.
NO_ROWS = [
    [], (), ["a", P], ("a", P), ["a", P, "b", Q], ["a", "b"], "a", "", "abc", None, True, False,
    0, 1, {}, {"a": 1}, {0: "a", 1: P, 2: "b"}, Strip(["a"]), Ring(["a"]),
]

# Rows with items that cannot stand at their places, and the index of the first of them.
WRONG_ITEMS = [
    ([P], 0), ((P,), 0), ([None], 0), ([True], 0), ([0], 0), ([["a"]], 0), (["a1"], 0), (["a b"], 0),
    (["_"], 0), ([" "], 0), (["a\n"], 0), ([("a",)], 0), ([{}], 0), ([Strip(["a"])], 0),
    ([P, "a", Q], 0), (["a", "b", "c"], 1), (["a", ["p", True], "c"], 1), (["a", ("p", 1), "c"], 1),
    (["a", ("p", 0), "c"], 1), (["a", ("P", True), "c"], 1), (["a", ("", True), "c"], 1),
    (["a", ("abcde", True), "c"], 1), (["a", ("p", True, True), "c"], 1), (["a", ("p",), "c"], 1),
    (["a", None, "c"], 1), (["a", "p+", "c"], 1), (["a", P, P], 2), (["a", P, None], 2),
    (["a", P, "c-"], 2), (["a", P, "c", "d", "e"], 3), (["a", P, "c", Q, Q], 4),
    (["a", "b", 3], 1), (["1", "b", "c"], 0), (["a", P, 3, 4, 5], 2), (["a", 1, 2, 3, 4], 1),
    (("a", P, "b", ["q", False], "c"), 3), ([1, P, "b", Q, "c"], 0),
]


class Integers(unittest.TestCase):
    def test_the_bounds_are_included(self):
        for value, expected in ((2, False), (3, True), (4, True), (5, True), (6, False)):
            self.assertIs(is_integer(value, 3, 5), expected)

    def test_negative_equal_and_crossed_bounds(self):
        self.assertIs(is_integer(-2, -3, -1), True)
        self.assertIs(is_integer(-4, -3, -1), False)
        self.assertIs(is_integer(0, -3, -1), False)
        self.assertIs(is_integer(0, -1, 1), True)
        self.assertIs(is_integer(7, 7, 7), True)
        self.assertIs(is_integer(8, 7, 7), False)
        self.assertIs(is_integer(7, 8, 6), False)

    def test_thirty_digits(self):
        most = 10 ** 30 - 1
        self.assertIs(is_integer(most, -most, most), True)
        self.assertIs(is_integer(-most, -most, most), True)
        self.assertIs(is_integer(most, 0, most - 1), False)
        self.assertIs(is_integer(-most, 1 - most, 0), False)

    def test_values_of_every_kind(self):
        for value in any_values():
            expected = type(value) is int and -5 <= value <= 5
            self.assertIs(is_integer(value, -5, 5), expected, value)

    def test_true_and_false_are_no_integers(self):
        for value in (True, False):
            self.assertIs(is_integer(value, 0, 1), False)
            self.assertIs(is_integer(value, -10, 10), False)

    def test_by_name(self):
        self.assertIs(is_integer(high=5, value=4, low=3), True)
        self.assertIs(is_integer(4, high=3, low=3), False)


class NamesPiecesMarkers(unittest.TestCase):
    def test_names(self):
        for value in ("a", "z", "p", "az", "abc", "abcd", "zzzz"):
            self.assertIs(is_name(value), True, value)
        for value in ("", "abcde", "zzzzz", "A", "Ab", "aB", "abC", "p1", "a b", " a", "a ", "a\n", "\n",
                      "a-", "_", "`", "{", "a{", "@", "Z"):
            self.assertIs(is_name(value), False, value)

    def test_pieces(self):
        for value in ("", "a", "z", "A", "Z", "aB", "Ba", "abcde", "ABCDE", "azAZ"):
            self.assertIs(is_piece(value), True, value)
        for value in ("_", " ", "a b", "a ", " a", "a\n", "\n", "a1", "1", "a+", "a-b", "`", "{", "@", "[",
                      "a_b", "a`b", "a{b", "a@b", "a[b", "(a)"):
            self.assertIs(is_piece(value), False, value)

    def test_every_printable_sign_and_the_line_feed(self):
        for code in [10, *range(32, 37), *range(38, 127)]:
            sign = chr(code)
            lower = 97 <= code <= 122
            self.assertIs(is_name(sign), lower, sign)
            self.assertIs(is_name("a" + sign), lower, sign)
            self.assertIs(is_piece(sign), lower or 65 <= code <= 90, sign)
            self.assertIs(is_piece("aB" + sign), lower or 65 <= code <= 90, sign)

    def test_long_pieces(self):
        for count in (999, 1000, 1001, 20000):
            self.assertIs(is_piece("aB" * count), True)
            self.assertIs(is_piece("aB" * count + "1"), False)
            self.assertIs(is_piece("_" + "aB" * count), False)

    def test_markers(self):
        for value in (("p", True), ("p", False), ("abcd", True), ("zz", False)):
            self.assertIs(is_marker(value), True, value)
        for value in (["p", True], ("p", 1), ("p", 0), ("p", None), ("p", "True"), ("", True),
                      ("abcde", True), ("P", True), (True, "p"), (True, True), ("p", "q"), ("p",),
                      (), ("p", True, True), ("p", True, "p"), ("p+",), "p+", "p", ("p", (True,)),
                      (("p", True),), (["p"], True), (None, True), (1, True), ("p", [True]), ("p", {})):
            self.assertIs(is_marker(value), False, value)

    def test_values_of_every_kind(self):
        for value in any_values():
            self.assertIs(is_name(value), looks_like_name(value), value)
            self.assertIs(is_piece(value), looks_like_piece(value), value)
            self.assertIs(is_marker(value), looks_like_marker(value), value)

    def test_by_name(self):
        self.assertIs(is_name(value="p"), True)
        self.assertIs(is_piece(value="P"), True)
        self.assertIs(is_marker(value=P), True)
        self.assertIs(is_row(value=["a"]), True)


class Rows(unittest.TestCase):
    def test_the_example(self):
        self.assertIs(is_row(["a", ("p", True), ""]), True)

    def test_rows_are_lists_or_tuples(self):
        for row in sample_rows():
            self.assertIs(is_row(row), True, row)
            self.assertIs(is_row(tuple(row)), True, row)

    def test_a_name_may_occur_any_number_of_times(self):
        for times in range(8):
            self.assertIs(is_row([""] + [P, ""] * times), True)
            self.assertIs(is_row([""] + [P, "", Q, "a"] * times), True)

    def test_what_is_no_row(self):
        for value in NO_ROWS:
            self.assertIs(is_row(value), False, value)
        for row, _ in WRONG_ITEMS:
            self.assertIs(is_row(row), False, row)
            self.assertIs(is_row(tuple(row)), False, row)

    def test_values_of_every_kind(self):
        rows = [[""], ["a"], ["a", P, "b"], ("",), ("a",), ("p",), ("a", P, "b")]
        for value in any_values():
            self.assertIs(is_row(value), type(value) in (list, tuple) and value in rows, value)

    def test_items_missing_doubled_and_replaced(self):
        row = ["a", P, "", Q, "bC", P, "d"]
        for index, item in enumerate(row):
            self.assertIs(is_row(row[:index] + row[index + 1:]), False)
            self.assertIs(is_row(row[:index] + [item] + row[index:]), False)
            self.assertIs(is_row(row[:index] + [item, item] + row[index:]), False)
            for value in any_values():
                expected = looks_like_marker(value) if index % 2 else looks_like_piece(value)
                changed = row[:index] + [value] + row[index + 1:]
                self.assertIs(is_row(changed), expected, changed)
                self.assertIs(is_row(tuple(changed)), expected, changed)

    def test_long_rows_and_long_pieces(self):
        row = ["aB" * 2000] + [P, "", Q, "aB" * 30] * 1000
        self.assertIs(is_row(row), True)
        self.assertIs(is_row(row[:-1]), False)
        self.assertIs(is_row(row[:-1] + ["1"]), False)
        self.assertIs(is_row(row[:-2] + [("q", 1), ""]), False)
        self.assertEqual(flip_row(row), flipped_items(row))


class Flipping(Case):
    def test_the_example(self):
        self.assertEqual(flip_row(["aB", ("p", True), "c"]), ["C", ("p", False), "bA"])

    def test_pieces_with_upper_and_lower_case(self):
        for piece, flipped in (("", ""), ("a", "A"), ("A", "a"), ("ab", "BA"), ("aB", "bA"), ("Ab", "Ba"),
                               ("abC", "cBA"), ("azAZ", "zaZA"), ("aA", "aA")):
            self.assertEqual(flip_piece(piece), flipped)
            self.assertEqual(flip_piece(flipped), piece)

    def test_every_letter(self):
        for letter in "abcdefghijklmnopqrstuvwxyz":
            self.assertEqual(flip_piece(letter), letter.upper())
            self.assertEqual(flip_piece(letter.upper()), letter)

    def test_long_pieces(self):
        piece = "abCdE" * 3000
        self.assertEqual(flip_piece(piece), flipped_letters(piece))
        self.assertEqual(flip_piece(flip_piece(piece)), piece)

    def test_markers(self):
        for name in ("p", "abcd"):
            for upright in (True, False):
                flipped = flip_marker((name, upright))
                self.assertIs(type(flipped), tuple)
                self.assertEqual(flipped, (name, not upright))
                self.assertIs(type(flipped[1]), bool)
                self.assertEqual(flip_marker(flipped), (name, upright))

    def test_rows(self):
        for row in sample_rows():
            for given in (row, tuple(row)):
                flipped = flip_row(given)
                self.assertIs(type(flipped), list)
                self.assertEqual(flipped, flipped_items(row))
                self.assertIs(is_row(flipped), True)

    def test_flipping_twice_restores(self):
        for row in sample_rows():
            self.assertEqual(flip_row(flip_row(row)), row)
            self.assertEqual(flip_row(tuple(flip_row(row))), row)

    def test_two_rows_joined_by_a_marker(self):
        rows = sample_rows()
        for one, other in zip(rows, rows[7:] + rows[:7]):
            for marker in (P, Q, ("xyz", True)):
                joined = flip_row(other) + [flip_marker(marker)] + flip_row(one)
                self.assertEqual(flip_row(one + [marker] + other), joined)

    def test_the_argument_is_unchanged_and_the_result_is_new(self):
        for row in sample_rows():
            kept = copy.deepcopy(row)
            first, second = flip_row(row), flip_row(row)
            self.assertEqual(row, kept)
            self.assertIsNot(first, row)
            self.assertIsNot(first, second)
            first.append("changed")
            self.assertEqual((row, second), (kept, flipped_items(kept)))

    def test_wrong_pieces_and_markers(self):
        for value in any_values():
            if looks_like_piece(value):
                self.assertEqual(flip_piece(value), flipped_letters(value))
            else:
                self.assert_raises(InvalidPiece, value, flip_piece, value)
                self.assert_raises(InvalidPiece, value, flip_piece, piece=value)
            if looks_like_marker(value):
                self.assertEqual(flip_marker(value), flipped_item(value))
            else:
                self.assert_raises(InvalidMarker, value, flip_marker, value)
                self.assert_raises(InvalidMarker, value, flip_marker, marker=value)

    def test_by_name(self):
        self.assertEqual(flip_piece(piece="aB"), "bA")
        self.assertEqual(flip_marker(marker=P), ("p", False))
        self.assertEqual(flip_row(row=["a"]), ["A"])


def wrong_row_errors():
    """Wrong rows, each with the error class it leads to and the very value that the error keeps."""
    cases = [(value, InvalidRow, value) for value in NO_ROWS]
    for row, index in WRONG_ITEMS:
        for wrong in (list(row), tuple(row)):
            cases.append((wrong, InvalidMarker if index % 2 else InvalidPiece, wrong[index]))
    for value in any_values():
        if type(value) not in (list, tuple) or len(value) % 2 == 0:
            cases.append((value, InvalidRow, value))
        if not looks_like_piece(value):
            cases.append((["a", P, value, "b", 0], InvalidPiece, value))
        if not looks_like_marker(value):
            cases.append((["a", P, "b", value, 0], InvalidMarker, value))
    # Wrong items count only where the length is that of a row.
    for items in ([1, 2], [P, "a"], [None] * 4, (P, P), ["a", "b", "c", "d"]):
        cases.append((items, InvalidRow, items))
    return cases


class WrongRows(Case):
    """The errors of rows, in their order, are the same for all functions that take a row."""

    def test_flip_row(self):
        for row, error, value in wrong_row_errors():
            self.assert_raises(error, value, flip_row, row)
            self.assert_raises(error, value, flip_row, row=row)

    def test_clean_row(self):
        for row, error, value in wrong_row_errors():
            self.assert_raises(error, value, clean_row, row)
            self.assert_raises(error, value, clean_row, row=row)

    def test_without_markers(self):
        for row, error, value in wrong_row_errors():
            for numbers in ([], [0], (), None, [99], "x"):
                self.assert_raises(error, value, without_markers, row, numbers)
            self.assert_raises(error, value, without_markers, numbers=[], row=row)

    def test_the_kept_value_follows_later_changes(self):
        row = ["a", P]
        caught = self.assert_raises(InvalidRow, row, flip_row, row)
        row.append("b")
        self.assertEqual(caught.value, ["a", P, "b"])
        item = ["p"]
        caught = self.assert_raises(InvalidMarker, item, clean_row, ["a", item, "b"])
        item.append(True)
        self.assertEqual(caught.value, ["p", True])


def merged_without(row, numbers):
    """The row without these markers, one marker removed at a time, the last one first."""
    row = list(row)
    for number in sorted(set(numbers), reverse=True):
        at = 2 * number + 1
        row[at - 1:at + 2] = [row[at - 1] + row[at + 1]]
    return row


class WithoutMarkers(Case):
    ROW = ["a", P, "b", Q, "", P, "Cc", ("r", True), "d"]

    def test_one_and_several(self):
        self.assertEqual(without_markers(self.ROW, []), self.ROW)
        self.assertEqual(without_markers(self.ROW, [0]), ["ab", Q, "", P, "Cc", ("r", True), "d"])
        self.assertEqual(without_markers(self.ROW, [3]), ["a", P, "b", Q, "", P, "Ccd"])
        self.assertEqual(without_markers(self.ROW, [1, 2]), ["a", P, "bCc", ("r", True), "d"])
        self.assertEqual(without_markers(self.ROW, [0, 2]), ["ab", Q, "Cc", ("r", True), "d"])
        self.assertEqual(without_markers(self.ROW, [0, 1, 2, 3]), ["abCcd"])
        self.assertEqual(without_markers(["a"], []), ["a"])
        self.assertEqual(without_markers([""], ()), [""])
        self.assertEqual(without_markers(["", P, ""], [0]), [""])

    def test_any_order_and_repeated(self):
        expected = ["abCc", ("r", True), "d"]
        for numbers in ([0, 1, 2], [2, 1, 0], [1, 0, 2], [0, 0, 1, 2, 2], (2, 0, 1), (1, 1, 2, 0, 0, 1)):
            self.assertEqual(without_markers(self.ROW, numbers), expected)

    def test_every_selection(self):
        rng = random.Random(13)
        for markers in range(8):
            row = sample_row(rng, markers, ["p", "q", "r"])
            for choice in range(2 ** markers):
                numbers = [number for number in range(markers) if choice >> number & 1]
                expected = merged_without(row, numbers)
                rng.shuffle(numbers)
                self.assertEqual(without_markers(row, numbers), expected)
                self.assertEqual(without_markers(tuple(row), tuple(numbers + numbers)), expected)
                self.assertIs(type(without_markers(tuple(row), tuple(numbers))), list)

    def test_wrong_numbers(self):
        total = len(self.ROW) // 2
        for value in any_values():
            valid = (type(value) in (list, tuple)
                     and all(type(item) is int and 0 <= item < total for item in value))
            if valid:
                self.assertEqual(without_markers(self.ROW, value), merged_without(self.ROW, value))
            else:
                self.assert_raises(InvalidNumbers, value, without_markers, self.ROW, value)
            if type(value) is not int or not 0 <= value < total:
                for numbers in ([value], (value,), [0, value], [value, 3], [0, 1, value, 2]):
                    self.assert_raises(InvalidNumbers, numbers, without_markers, self.ROW, numbers)

    def test_numbers_out_of_range(self):
        for numbers in ([4], [-1], [0, 4], [-4], [5], [10 ** 29], [-10 ** 29], (4,), (0, -1)):
            self.assert_raises(InvalidNumbers, numbers, without_markers, self.ROW, numbers)
        for numbers in ([0], [1], [-1], (0,)):
            self.assert_raises(InvalidNumbers, numbers, without_markers, ["a"], numbers)

    def test_true_and_false_are_no_numbers(self):
        for numbers in ([True], [False], (True,), (False,), [0, True], [False, 1], [1, 0, True, False]):
            self.assert_raises(InvalidNumbers, numbers, without_markers, self.ROW, numbers)

    def test_values_that_are_no_lists(self):
        for numbers in (0, 1, None, "", "0", "01", {}, {0: 1}, {0: 0, 1: 1}, True, Strip(["a"])):
            self.assert_raises(InvalidNumbers, numbers, without_markers, self.ROW, numbers)

    def test_the_kept_value_follows_later_changes(self):
        numbers = [4]
        caught = self.assert_raises(InvalidNumbers, numbers, without_markers, self.ROW, numbers)
        numbers.append(0)
        self.assertEqual(caught.value, [4, 0])

    def test_the_arguments_are_unchanged_and_the_result_is_new(self):
        for numbers in ([], [2, 0, 2]):
            row, kept = list(self.ROW), list(numbers)
            first, second = without_markers(row, numbers), without_markers(row, numbers)
            self.assertEqual((row, numbers), (self.ROW, kept))
            self.assertIsNot(first, row)
            first.clear()
            self.assertEqual(row, self.ROW)
            self.assertEqual(second, merged_without(row, numbers))

    def test_by_name(self):
        self.assertEqual(without_markers(numbers=[0], row=["a", P, "b"]), ["ab"])

    def test_returned_rows_of_any_size_can_be_passed_in_again(self):
        row = [""] + [P, "aB" * 500] * 400
        merged = without_markers(row, list(range(1, 400)))
        self.assertEqual(merged, ["", P, "aB" * 200000])
        self.assertEqual(without_markers(merged, [0]), ["aB" * 200000])
        self.assertEqual(flip_row(merged), ["bA" * 200000, ("p", False), ""])
        self.assertEqual(clean_row(merged), ["aB" * 200000])


class Cleaning(Case):
    def test_names_that_occur_once_twice_and_more(self):
        other = ("p", False)
        cases = [
            (["a"], ["a"]),
            ([""], [""]),
            (["a", P, "b"], ["ab"]),
            (["a", P, "b", P, "c"], ["a", P, "b", P, "c"]),
            (["a", P, "b", other, "c"], ["a", P, "b", other, "c"]),
            (["a", P, "b", other, "c", P, "d"], ["a", P, "b", other, "cd"]),
            (["a", other, "b", P, "c", P, "d", P, "e"], ["a", other, "b", P, "cde"]),
            (["a", P, "b", P, "c", other, "d", P, "e", other, "f"], ["a", P, "b", P, "cdef"]),
            (["a", P, "b", Q, "c", P, "d"], ["a", P, "bc", P, "d"]),
            (["a", Q, "b", P, "c", P, "d"], ["ab", P, "c", P, "d"]),
            (["a", P, "b", Q, "c"], ["abc"]),
            (["a", P, "b", Q, "c", ("r", True), "d"], ["abcd"]),
            (["a", P, "b", Q, "c", Q, "d", P, "e", Q, "f", P, "g"], ["a", P, "b", Q, "c", Q, "d", P, "efg"]),
            (["", ("pq", True), "", ("p", True), "", ("pq", True), ""], ["", ("pq", True), "", ("pq", True), ""]),
        ]
        for row, expected in cases:
            self.assertEqual(clean_row(row), expected)
            self.assertEqual(clean_row(tuple(row)), expected)
            self.assertIs(type(clean_row(tuple(row))), list)

    def test_rows_of_many_shapes(self):
        for row in sample_rows():
            unusable = []
            names = [item[0] for item in row[1::2]]
            for number, name in enumerate(names):
                if names.count(name) == 1 or names[:number].count(name) >= 2:
                    unusable.append(number)
            self.assertEqual(clean_row(row), merged_without(row, unusable))

    def test_cleaning_again_changes_nothing(self):
        for row in sample_rows():
            cleaned = clean_row(row)
            self.assertEqual(clean_row(cleaned), cleaned)
            names = [item[0] for item in cleaned[1::2]]
            self.assertTrue(all(names.count(name) == 2 for name in names))

    def test_the_argument_is_unchanged_and_the_result_is_new(self):
        for row in sample_rows():
            kept = list(row)
            first, second = clean_row(row), clean_row(row)
            self.assertEqual(row, kept)
            self.assertIsNot(first, row)
            self.assertIsNot(first, second)
            first.append("changed")
            self.assertEqual(row, kept)
            self.assertEqual(second, clean_row(row))

    def test_long_rows(self):
        row = ["x"] + [P, "a", Q, "B"] * 1000
        self.assertEqual(clean_row(row), ["x", P, "a", Q, "B", P, "a", Q, "B" + "aB" * 998])

    def test_by_name(self):
        self.assertEqual(clean_row(row=["a", P, "b"]), ["ab"])


if __name__ == "__main__":
    unittest.main()
