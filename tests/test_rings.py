"""Points 6, 24, 25 and 26, what 27 says of rings, and 7 to 9 as far as they speak of them."""

import copy
import random
import unittest

from markersplice.errors import InvalidMarker, InvalidPiece, InvalidRow
from markersplice.rows import clean_row
from markersplice.strips import Ring, Strip
from support import (
    Case, any_values, flipped_letters, looks_like_marker, looks_like_piece, name_list, reading_text,
    ring_readings, sample_row, smallest_reading,
)

P = ("p", True)
Q = ("q", False)

ONE_PIECE = ["", "a", "A", "aA", "Aa", "ab", "ba", "aB", "abc", "cab", "CBA", "abab", "aaaa", "aabaab", "abAB",
             "ABba", "aAaA", "aaAA", "abcabd", "zyxabcZYX", "bbabbabba", "AbAbaB", "BAbaab"]


def sample_readings():
    """Readings of rings of one piece and of up to fifty markers, with repeated names."""
    rng = random.Random(24)
    readings = [[piece] for piece in ONE_PIECE]
    for markers in (1, 1, 1, 2, 2, 2, 3, 3, 4, 5, 6, 8, 12, 25, 50):
        for names in (["p"], ["p", "q"], ["p", "pq", "pqr", "pp"], name_list(14)):
            for most_letters in (0, 1, 3):
                readings.append(sample_row(rng, markers, names, most_letters)[:-1])
    # Rings whose readings repeat themselves, or are the same in both directions.
    readings.append(["a", P] * 5)
    readings.append(["", P, "", ("p", False)] * 3)
    readings.append(["", P, "", ("p", False)] * 25)
    readings.append(["a", P, "A", ("p", False)])
    readings.append(["a", P, "b", P, "a", P, "b", P, "a", P])
    readings.append(["", P] * 49 + ["a", P])
    readings.append(["a", P] * 24 + ["b", Q] + ["a", P] * 25)
    return readings


def told(ring):
    """All that a ring tells."""
    return [ring.row(), ring.names(), ring.letter_count(), len(ring), str(ring), repr(ring)]


def oracle(row):
    """What a ring of this reading must tell."""
    canonical = smallest_reading(row)
    text = reading_text(canonical)
    names = [word[:-1] for word in text.split() if word[-1] in "+-"]
    letters = sum(len(item) for item in row if isinstance(item, str))
    return [canonical, names, letters, len(names), text, "Ring(" + text + ")"]


class Creating(Case):
    def test_lists_and_tuples(self):
        for row in sample_readings():
            expected = told(Ring(row))
            self.assertEqual(told(Ring(tuple(row))), expected)
            self.assertEqual(told(Ring(row=row)), expected)
            self.assertEqual(Ring(tuple(row)), Ring(row))

    def test_wrong_lengths_and_kinds(self):
        for row in ([], (), ["a", P, "b"], ("a", P, "b"), ["a", P, "b", Q, "c"], [1, 2, 3], [None] * 5):
            self.assert_raises(InvalidRow, row, Ring, row)
        for value in any_values():
            if type(value) not in (list, tuple) or len(value) not in (1, 2):
                self.assert_raises(InvalidRow, value, Ring, value)
                self.assert_raises(InvalidRow, value, Ring, row=value)

    def test_wrong_items(self):
        for value in any_values():
            if not looks_like_piece(value):
                for row in ([value], (value,), [value, P], (value, 0), ["a", P, value, Q], ["a", P, value, 0]):
                    self.assert_raises(InvalidPiece, value, Ring, row)
            if not looks_like_marker(value):
                for row in (["a", value], ("a", value), ["a", value, 0, 1], ["a", P, "", value]):
                    self.assert_raises(InvalidMarker, value, Ring, row)

    def test_the_order_of_the_errors(self):
        first, second = ["first"], ["second"]
        self.assert_raises(InvalidPiece, first, Ring, [first, second])
        self.assert_raises(InvalidMarker, first, Ring, ["a", first, second, P])
        self.assert_raises(InvalidPiece, first, Ring, ["a", P, first, second])
        self.assert_raises(InvalidPiece, P, Ring, [P, "a"])
        self.assert_raises(InvalidMarker, "b", Ring, ["a", "b"])
        self.assert_raises(InvalidRow, row := [first, second, first], Ring, row)

    def test_the_kept_value_follows_later_changes(self):
        row = ["a", P, "b"]
        caught = self.assert_raises(InvalidRow, row, Ring, row)
        row.append(Q)
        self.assertEqual(caught.value, ["a", P, "b", Q])
        item = ["p"]
        caught = self.assert_raises(InvalidMarker, item, Ring, ["a", item])
        item.append(True)
        self.assertEqual(caught.value, ["p", True])

    def test_names_may_occur_any_number_of_times(self):
        for times in (1, 2, 3, 4, 20, 50):
            self.assertEqual(len(Ring(["a", P] * times)), times)
        names = [item for name in name_list(16) for item in ("", (name, True))]
        self.assertEqual(len(Ring(names)), 16)


class CanonicalReading(Case):
    def test_the_example(self):
        self.assertEqual(str(Ring(["b", ("p", True), "A", ("q", False)])), "( p+ A q- b )")

    def test_rings_of_one_piece(self):
        cases = {"": "", "a": "A", "A": "A", "ab": "AB", "aB": "Ab", "aA": "Aa", "abc": "ACB", "Ab": "Ab",
                 "aab": "AAB", "abab": "ABAB", "BA": "AB", "abAB": "ABab"}
        for piece, smallest in cases.items():
            ring = Ring([piece])
            self.assertEqual(ring.row(), [smallest])
            self.assertEqual(ring.names(), [])
            self.assertEqual(ring.letter_count(), len(piece))
            self.assertEqual(len(ring), 0)
            self.assertEqual(str(ring), f"( {smallest or '_'} )")
            self.assertEqual(repr(ring), f"Ring(( {smallest or '_'} ))")

    def test_rings_with_markers(self):
        # Each line: a reading, the canonical one, and its text. Upright markers sort before
        # inverted ones, and a name sorts before those that it begins.
        cases = [
            (["", P], ["", P], "( p+ _ )"),
            (["", ("p", False)], ["", P], "( p+ _ )"),
            (["ab", ("p", False)], ["BA", P], "( p+ BA )"),
            (["b", P, "A", Q], ["A", Q, "b", P], "( p+ A q- b )"),
            (["", ("b", True), "", ("a", True)], ["", ("b", True), "", ("a", True)], "( a+ _ b+ _ )"),
            (["", ("a", True), "", ("b", True)], ["", ("b", True), "", ("a", True)], "( a+ _ b+ _ )"),
            (["a", P, "b", P], ["a", P, "b", P], "( p+ a p+ b )"),
            (["c", ("ab", True), "d", ("a", False)], ["D", ("ab", False), "C", ("a", True)], "( a+ D ab- C )"),
        ]
        for row, canonical, text in cases:
            self.assertEqual(Ring(row).row(), canonical)
            self.assertEqual(str(Ring(row)), text)

    def test_against_all_readings(self):
        for row in sample_readings():
            self.assertEqual(told(Ring(row)), oracle(row))

    def test_every_small_ring(self):
        pieces = ["", "a", "B", "bA"]
        markers = [P, ("p", False), ("q", True)]
        small = [[piece] for piece in pieces]
        rows = [[piece, marker] for piece in pieces for marker in markers]
        small.extend(rows)
        small.extend(one + other for one in rows for other in rows)
        small.extend(one + other + third for one in rows[:6] for other in rows[2:8] for third in rows[4:])
        for row in small:
            self.assertEqual(told(Ring(row)), oracle(row))

    def test_every_short_piece(self):
        pieces = [""]
        for piece in pieces:
            if len(piece) < 6:
                pieces.extend(piece + letter for letter in "aAb")
        for piece in pieces:
            self.assertEqual(told(Ring([piece])), oracle([piece]))

    def test_the_row_is_a_reading_from_which_the_ring_can_be_created(self):
        for row in sample_readings():
            ring = Ring(row)
            self.assertIn(ring.row(), ring_readings(row))
            self.assertIs(type(ring.row()), list)
            self.assertIsInstance(ring.row()[0], str)
            self.assertEqual(told(Ring(ring.row())), told(ring))
            if len(ring):
                self.assertTrue(str(ring).startswith("( " + ring.names()[0]))
                self.assertEqual(ring.row()[-1][0], ring.names()[0])

    def test_names_occur_once_per_marker(self):
        self.assertEqual(Ring(["", P, "", P, "", P]).names(), ["p", "p", "p"])
        self.assertEqual(Ring(["", ("c", True), "", ("b", True), "", ("a", True)]).names(), ["a", "c", "b"])
        self.assertEqual(Ring(["", ("a", True), "", ("c", True), "", ("a", True)]).names(), ["a", "a", "c"])

    def test_letters_of_all_pieces_count(self):
        self.assertEqual(Ring(["abc", P, "", Q, "DE", P]).letter_count(), 5)
        self.assertEqual(Ring(["", P]).letter_count(), 0)
        self.assertEqual(Ring(["abCd"]).letter_count(), 4)
        self.assertIs(type(Ring([""]).letter_count()), int)

    def test_long_rings(self):
        piece = "ab" * 3000 + "B"
        ring = Ring([piece])
        self.assertEqual(ring.letter_count(), 6001)
        self.assertEqual(ring, Ring([piece[17:] + piece[:17]]))
        self.assertEqual(ring, Ring([flipped_letters(piece)]))
        self.assertEqual(ring.row(), ["A" + "BA" * 2999 + "bB"])
        row = ["aB" * 400, P] * 49 + ["aB" * 399 + "aC", P]
        self.assertEqual(told(Ring(row)), oracle(row))

    def test_returned_values_of_any_size_can_be_passed_in_again(self):
        row = clean_row(["a"] + [P, "bA" * 500] * 40)
        ring = Ring(row[:-1])
        self.assertEqual(Ring(ring.row()), ring)
        merged = clean_row([""] + [P, "b" * 1000, Q, "b" * 1000])
        self.assertEqual(str(Ring(merged)), "( " + "B" * 2000 + " )")


class AllReadings(Case):
    """Points 6 and 27: every reading, in either direction, gives the same ring."""

    def test_every_reading_tells_the_same(self):
        for row in sample_readings():
            ring = Ring(row)
            expected = told(ring)
            for reading in ring_readings(row):
                other = Ring(reading)
                self.assertEqual(told(other), expected)
                self.assertIs(other == ring, True)
                self.assertIs(other != ring, False)

    def test_a_flipped_strip_makes_the_same_ring(self):
        for row in sample_readings():
            if len(row) > 1:
                self.assertEqual(Ring(flip_turned(row)), Ring(row))


def flip_turned(row):
    """The same ring in the other direction, cut at the same marker."""
    turned = [row[-1]] + row[:-1]
    flipped = [flipped_letters(item) if isinstance(item, str) else (item[0], not item[1])
               for item in turned[::-1]]
    return flipped


class Equality(Case):
    def test_rings_that_are_nearly_equal(self):
        pairs = [
            ([""], ["a"]), (["ab"], ["aB"]), (["abc"], ["acb"]), (["abc"], ["ABC"]), (["abc"], ["cba"]),
            (["ab"], ["abab"]), (["a"], ["aa"]), (["aab"], ["abb"]), (["abcabc"], ["abc"]),
            (["", P], [""]), (["", P], ["", Q]), (["a", P], ["A", P]), (["a", P], ["a", ("p", False)]),
            (["a", P], ["a", P, "a", P]), (["a", P], ["a", P, "", P]), (["ab", P], ["ba", P]),
            (["ab", P], ["a", P, "b", P]), (["", P, "", Q], ["", P, "", ("q", True)]),
            (["a", P, "b", ("q", True)], ["b", P, "a", ("q", True)]),
            (["a", P, "b", P, "c", P], ["a", P, "c", P, "b", P]),
            (["", P, "", ("q", True), "", ("r", True)], ["", ("r", True), "", ("q", True), "", P]),
            (["", P, "", P, "", ("q", True), "", ("q", True)], ["", P, "", ("q", True), "", P, "", ("q", True)]),
            (["", P, "", P], ["", P, "", ("p", False)]), (["", ("p", True)], ["", ("pp", True)]),
            (["a", P, "", P, "", P], ["a", P, "a", P, "", P]),
        ]
        for one, other in pairs:
            self.assertNotIn(list(other), ring_readings(one))
            self.assert_equality(Ring(one), Ring(other), False)
            self.assertNotEqual(Ring(one).row(), Ring(other).row())
            self.assertNotEqual(str(Ring(one)), str(Ring(other)))

    def test_one_changed_item(self):
        rng = random.Random(26)
        for row in sample_readings():
            for _ in range(4):
                changed = list(row)
                index = rng.randrange(len(row))
                if isinstance(row[index], str):
                    changed[index] = row[index] + "q" if rng.randrange(2) else row[index].swapcase()
                else:
                    changed[index] = (row[index][0], not row[index][1])
                self.assert_equality(Ring(row), Ring(changed), changed in ring_readings(row))

    def test_all_small_rings(self):
        readings = [row for row in sample_readings() if len(row) <= 4][:40]
        for one in readings:
            for other in readings:
                self.assert_equality(Ring(one), Ring(other), other in ring_readings(one))

    def test_values_of_other_kinds(self):
        for row in (["a"], [""], ["", P], ["b", P, "A", Q]):
            ring = Ring(row)
            for other in [row, tuple(row), ring.row(), str(ring), repr(ring), Strip(["a"]), Strip([""]),
                          Strip(["", P, "", P, ""])] + any_values():
                if type(other) is Ring:
                    self.assert_equality(ring, other, other.row() in ring_readings(row))
                else:
                    self.assert_equality(ring, other, False)


class Copies(Case):
    def test_the_argument_is_unchanged(self):
        for row in sample_readings():
            kept = copy.deepcopy(row)
            Ring(row)
            self.assertEqual(row, kept)

    def test_changes_to_passed_and_returned_lists_have_no_effect(self):
        for start in (["abc"], ["b", P, "A", Q, "", P]):
            row = list(start)
            ring = Ring(row)
            before = copy.deepcopy(told(ring))
            row[0] = "changed"
            row.extend(["", P])
            self.assertEqual(told(ring), before)
            for call in (ring.row, ring.names):
                first, second = call(), call()
                self.assertIs(type(first), list)
                self.assertIsNot(first, second)
                self.assertEqual(first, second)
                first.append("changed")
                first[0] = "changed"
                self.assertEqual(told(ring), before)
                self.assertEqual(ring, Ring(start))
                first.clear()
                self.assertEqual(told(ring), before)


class OtherNames(Case):
    def test_with_other_names_equal_rings_stay_equal_and_others_different(self):
        rng = random.Random(9)
        for row in sample_readings():
            old = sorted({item[0] for item in row[1::2]})
            new = name_list(16)
            rng.shuffle(new)
            new = dict(zip(old, new))
            renamed = [item if isinstance(item, str) else (new[item[0]], item[1]) for item in row]
            ring = Ring(renamed)
            self.assertEqual(sorted(ring.names()), sorted(new[name] for name in Ring(row).names()))
            self.assertEqual(ring.letter_count(), Ring(row).letter_count())
            for reading in ring_readings(renamed)[::7]:
                self.assertEqual(Ring(reading), ring)


if __name__ == "__main__":
    unittest.main()
