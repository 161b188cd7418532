"""Points 4, 21, 22 and 23, and what 27 says of strips."""

import copy
import itertools
import random
import unittest

from markersplice.errors import (
    InvalidMarker, InvalidPiece, InvalidRow, TooMany, UnknownName, Unpaired,
)
from markersplice.rows import clean_row, flip_row
from markersplice.strips import Ring, Strip
from support import (
    SAMPLE_ROW, Case, any_values, cross_in, flipped_items, item_text, looks_like_name, name_list, names_in,
    places_in, sample_rows, sample_strip_row, sample_strip_rows,
)

P = ("p", True)
Q = ("q", False)
NAME_METHODS = ("places", "orientations", "is_direct", "names_between")


def facts(strip):
    """All that the accessors of a strip tell."""
    names = strip.names()
    return {
        "row": strip.row(), "names": names, "pieces": strip.pieces(),
        "places": [strip.places(name) for name in names],
        "orientations": [strip.orientations(name) for name in names],
        "direct": [strip.is_direct(name) for name in names],
        "crosses": [strip.crosses(one, other) for one in names for other in names],
        "between": [strip.names_between(name) for name in names],
        "len": len(strip), "str": str(strip), "repr": repr(strip),
    }


class Creating(Case):
    def test_lists_and_tuples(self):
        for row in sample_strip_rows():
            self.assertEqual(Strip(row).row(), row)
            self.assertEqual(Strip(tuple(row)).row(), row)
            self.assertEqual(Strip(row=row).row(), row)

    def test_zero_to_twelve_names_and_more(self):
        for total in range(17):
            names = name_list(total)
            nested = [""] + [item for name in names + names[::-1] for item in ((name, True), "a")]
            paired = [""] + [item for name in names for item in ((name, True), "", (name, False), "b")]
            for row in (nested, paired, tuple(nested)):
                if total <= 12:
                    self.assertEqual(len(Strip(row)), total)
                    self.assertEqual(Strip(row).names(), names)
                else:
                    self.assert_total(TooMany, total, Strip, row)

    def test_the_errors_of_rows(self):
        for value in any_values():
            if type(value) not in (list, tuple) or len(value) % 2 == 0:
                self.assert_raises(InvalidRow, value, Strip, value)
                self.assert_raises(InvalidRow, value, Strip, row=value)
        for item in (1, None, True, "a1", P, ["a"]):
            self.assert_raises(InvalidPiece, item, Strip, [item])
            self.assert_raises(InvalidPiece, item, Strip, ("a", P, item, P, "b"))
        for item in ("a", ["p", True], ("p", 1), ("p",), None):
            self.assert_raises(InvalidMarker, item, Strip, ["a", item, "b"])
            self.assert_raises(InvalidMarker, item, Strip, ("a", P, "b", item, "c"))

    def test_the_first_unpaired_name(self):
        cases = [
            ([P], "p"), ([P, P, P], "p"), ([P] * 4, "p"), ([P, Q], "p"), ([Q, P], "q"),
            ([P, Q, P], "q"), ([Q, P, P], "q"), ([P, P, Q], "q"), ([Q, P, P, P, Q], "p"),
            ([P, Q, Q, Q, P], "q"), ([P, Q, P, Q, P], "p"), ([P, Q, Q, P, Q], "q"),
            ([P, Q, P, Q, P, Q], "p"), ([Q, P, P, Q, P, Q], "q"), ([P, ("b", True), Q, ("a", True), P, Q], "b"),
            ([("z", True), P, ("a", True), P], "z"), ([P, P, ("z", True), ("a", True)], "z"),
        ]
        for markers, name in cases:
            row = ["a"] + [item for marker in markers for item in (marker, "")]
            with self.assertRaises(Unpaired) as caught:
                Strip(row)
            self.assertEqual(caught.exception.value, name, row)
            with self.assertRaises(Unpaired) as caught:
                Strip(tuple(row))
            self.assertEqual(caught.exception.value, name, row)

    def test_rows_of_many_shapes(self):
        for row in sample_rows():
            names = names_in(row)
            wrong = [name for name in names if len(places_in(row, name)) != 2]
            if wrong:
                with self.assertRaises(Unpaired) as caught:
                    Strip(row)
                self.assertEqual(caught.exception.value, wrong[0])
            else:
                self.assertEqual(Strip(row).row(), row)

    def test_the_order_of_the_errors(self):
        many = [item for name in name_list(13) for item in ((name, True), "", (name, True), "")]
        self.assert_raises(InvalidRow, row := ["a", 1, 2, 3], Strip, row)
        item = [1]
        self.assert_raises(InvalidPiece, item, Strip, ["", P, item])
        self.assert_raises(InvalidMarker, item, Strip, ["", P, "", item, ""] + many)
        self.assert_raises(InvalidPiece, item, Strip, [""] + many[:-1] + [item])
        for row in ([""] + many + [P, ""], ["", P, ""] + many, [""] + many + [P, ""] * 3):
            with self.assertRaises(Unpaired) as caught:
                Strip(row)
            self.assertEqual(caught.exception.value, "p")
        self.assert_total(TooMany, 13, Strip, [""] + many)

    def test_the_kept_value_follows_later_changes(self):
        row = ["a", P]
        caught = self.assert_raises(InvalidRow, row, Strip, row)
        row.append("b")
        self.assertEqual(caught.value, ["a", P, "b"])

    def test_the_argument_is_unchanged(self):
        for row in (list(SAMPLE_ROW), [""], ["a", P, "b", P, "c"], ["a", P, "b"], ["a", P]):
            kept = copy.deepcopy(row)
            try:
                Strip(row)
            except (Unpaired, InvalidRow):
                pass
            self.assertEqual(row, kept)


class Accessors(Case):
    def test_the_example(self):
        strip = Strip(["a", ("p", True), "b", ("q", True), "", ("p", True), "c", ("q", False), "d"])
        told = [strip.places("p"), strip.is_direct("q"), strip.crosses("p", "q"), strip.names_between("p")]
        self.assertEqual(told, [(0, 2), False, True, ["q"]])

    def test_a_strip_without_names(self):
        for piece in ("", "aB"):
            self.assertEqual(facts(Strip([piece])), {
                "row": [piece], "names": [], "pieces": [piece], "places": [], "orientations": [],
                "direct": [], "crosses": [], "between": [], "len": 0, "str": piece or "_",
                "repr": f"Strip({piece or '_'})",
            })

    def test_the_sample(self):
        strip = Strip(SAMPLE_ROW)
        self.assertEqual(strip.names(), ["a", "b", "c", "d"])
        self.assertEqual(strip.pieces(), ["a", "b", "", "cC", "", "Dd", "e", "", "f"])
        self.assertEqual([strip.places(name) for name in "abcd"], [(0, 4), (1, 5), (2, 3), (6, 7)])
        self.assertEqual([strip.orientations(name) for name in "abcd"],
                         [(True, True), (False, True), (True, True), (False, True)])
        self.assertEqual([strip.is_direct(name) for name in "abcd"], [True, False, True, False])
        self.assertEqual([strip.names_between(name) for name in "abcd"],
                         [["b", "c", "c"], ["c", "c", "a"], [], []])
        crossing = [one + other for one in "abcd" for other in "abcd" if strip.crosses(one, other)]
        self.assertEqual(crossing, ["ab", "ba"])

    def test_strips_of_every_size(self):
        for row in sample_strip_rows():
            strip = Strip(row)
            names = names_in(row)
            self.assertEqual(strip.names(), names)
            self.assertEqual(strip.pieces(), row[::2])
            self.assertEqual(len(strip), len(names))
            for name in names:
                places = places_in(row, name)
                orientations = tuple(row[2 * place + 1][1] for place in places)
                self.assertEqual(strip.places(name), places)
                self.assertIs(type(strip.places(name)), tuple)
                self.assertEqual(strip.orientations(name), orientations)
                self.assertIs(type(strip.orientations(name)), tuple)
                self.assertIs(strip.is_direct(name), orientations in ((True, True), (False, False)))
                between = [item[0] for item in row[2 * places[0] + 2:2 * places[1] + 1] if len(item) == 2
                           and isinstance(item, tuple)]
                self.assertEqual(strip.names_between(name), between)
                for other in names:
                    self.assertIs(strip.crosses(name, other), cross_in(row, name, other))

    def test_every_order_of_three_names(self):
        for order in sorted(set(itertools.permutations("ppqqrr"))):
            row = [""] + [item for name in order for item in ((name, True), "")]
            strip = Strip(row)
            for one in "pqr":
                self.assertEqual(strip.places(one), places_in(row, one))
                self.assertIs(strip.crosses(one, one), False)
                for other in "pqr":
                    self.assertIs(strip.crosses(one, other), cross_in(row, one, other))

    def test_both_orientations_of_both_markers(self):
        for first in (True, False):
            for second in (True, False):
                strip = Strip(["", ("p", first), "a", ("p", second), ""])
                self.assertEqual(strip.orientations("p"), (first, second))
                self.assertIs(strip.is_direct("p"), first is second)

    def test_the_results_are_integers_and_bools(self):
        strip = Strip(SAMPLE_ROW)
        for name in strip.names():
            self.assertEqual([type(place) for place in strip.places(name)], [int, int])
            self.assertEqual([type(value) for value in strip.orientations(name)], [bool, bool])

    def test_by_name(self):
        strip = Strip(SAMPLE_ROW)
        self.assertEqual(strip.places(name="b"), (1, 5))
        self.assertEqual(strip.orientations(name="b"), (False, True))
        self.assertIs(strip.is_direct(name="a"), True)
        self.assertIs(strip.crosses(one="a", other="b"), True)
        self.assertIs(strip.crosses(other="c", one="a"), False)
        self.assertEqual(strip.names_between(name="b"), ["c", "c", "a"])


class UnknownNames(Case):
    def test_values_of_every_kind(self):
        strip = Strip(SAMPLE_ROW)
        values = any_values() + ["aa", "e", "A", ["a"], ("a",), {"a": 1}, ("a", True), "a+", 0]
        for value in values:
            if looks_like_name(value) and value in strip.names():
                continue
            for method in NAME_METHODS:
                self.assert_raises(UnknownName, value, getattr(strip, method), value)
                self.assert_raises(UnknownName, value, getattr(strip, method), name=value)
            self.assert_raises(UnknownName, value, strip.crosses, value, "a")
            self.assert_raises(UnknownName, value, strip.crosses, "a", value)
            self.assert_raises(UnknownName, value, strip.crosses, value, value)
            self.assert_raises(UnknownName, value, strip.crosses, other=value, one="a")

    def test_the_first_argument_counts(self):
        strip = Strip(SAMPLE_ROW)
        for first, second in (("e", "g"), ("g", "e"), (["a"], "e"), ("e", ["a"]), (None, 0), ([], {})):
            self.assert_raises(UnknownName, first, strip.crosses, first, second)
            self.assert_raises(UnknownName, first, strip.crosses, other=second, one=first)

    def test_a_strip_without_names_knows_none(self):
        for name in ("a", "p", "", None, []):
            for method in NAME_METHODS:
                self.assert_raises(UnknownName, name, getattr(Strip(["a"]), method), name)
            self.assert_raises(UnknownName, name, Strip(["a"]).crosses, name, name)

    def test_the_kept_value_follows_later_changes(self):
        name = ["a"]
        caught = self.assert_raises(UnknownName, name, Strip(SAMPLE_ROW).crosses, "a", name)
        name.append("b")
        self.assertEqual(caught.value, ["a", "b"])

    def test_an_error_changes_nothing(self):
        strip = Strip(SAMPLE_ROW)
        before = facts(strip)
        for value in any_values():
            if value in ("a", "b", "c", "d"):
                continue
            for method in NAME_METHODS:
                with self.assertRaises(UnknownName):
                    getattr(strip, method)(value)
        self.assertEqual(facts(strip), before)


class Copies(Case):
    def test_changes_to_the_passed_list_have_no_effect(self):
        row = list(SAMPLE_ROW)
        strip = Strip(row)
        before = facts(strip)
        row[0] = "changed"
        row[1] = ("q", False)
        self.assertEqual(facts(strip), before)
        row.clear()
        self.assertEqual(facts(strip), before)
        self.assertEqual(strip, Strip(SAMPLE_ROW))

    def test_changes_to_returned_lists_have_no_effect(self):
        strip = Strip(SAMPLE_ROW)
        before = facts(strip)
        for call in (strip.row, strip.names, strip.pieces, lambda: strip.names_between("a"),
                     lambda: strip.names_between("b"), lambda: strip.flipped().row()):
            first, second = call(), call()
            self.assertIs(type(first), list)
            self.assertEqual(first, second)
            self.assertIsNot(first, second)
            first.append("changed")
            first[0] = None
            self.assertEqual(call(), second)
            self.assertEqual(facts(strip), before)
            first.clear()
            self.assertEqual(call(), second)
            self.assertEqual(facts(strip), before)

    def test_strips_built_in_the_same_way_tell_the_same(self):
        for row in sample_strip_rows():
            expected = facts(Strip(row))
            self.assertEqual(facts(Strip(row)), expected)
            self.assertEqual(facts(Strip(tuple(row))), expected)
            self.assertEqual(facts(Strip(Strip(row).row())), expected)
            self.assertEqual(facts(Strip(row).flipped().flipped()), expected)

    def test_returned_values_of_any_size_can_be_passed_in_again(self):
        row = clean_row([""] + [P, "ab" * 500] * 300)
        strip = Strip(row)
        self.assertEqual(strip.pieces(), ["", "ab" * 500, "ab" * 500 * 299])
        self.assertEqual(Strip(strip.row()), strip)
        self.assertEqual(strip.flipped().pieces(), ["BA" * 500 * 299, "BA" * 500, ""])


class Flipping(Case):
    def test_the_flipped_row(self):
        for row in sample_strip_rows():
            flipped = Strip(row).flipped()
            self.assertIs(type(flipped), Strip)
            self.assertEqual(flipped.row(), flipped_items(row))
            self.assertEqual(flipped.row(), flip_row(row))

    def test_the_strip_itself_does_not_change(self):
        for row in sample_strip_rows():
            strip = Strip(row)
            before = facts(strip)
            strip.flipped()
            self.assertEqual(facts(strip), before)
            self.assertEqual(strip.row(), row)

    def test_flipping_twice_restores(self):
        for row in sample_strip_rows():
            strip = Strip(row)
            self.assertEqual(strip.flipped().flipped(), strip)
            self.assertEqual(strip.flipped().flipped().row(), row)

    def test_what_the_flipped_strip_tells(self):
        for row in sample_strip_rows():
            strip, flipped = Strip(row), Strip(row).flipped()
            last = len(row) // 2 - 1
            self.assertEqual(sorted(flipped.names()), sorted(strip.names()))
            for name in strip.names():
                low, high = strip.places(name)
                first, second = strip.orientations(name)
                self.assertEqual(flipped.places(name), (last - high, last - low))
                self.assertEqual(flipped.orientations(name), (not second, not first))
                self.assertIs(flipped.is_direct(name), strip.is_direct(name))
                self.assertEqual(flipped.names_between(name), strip.names_between(name)[::-1])
                for other in strip.names():
                    self.assertIs(flipped.crosses(name, other), strip.crosses(name, other))


class OtherNames(Case):
    def test_with_other_names_every_result_is_the_same_up_to_these(self):
        rng = random.Random(9)
        for total in range(13):
            row = sample_strip_row(rng, total)
            others = name_list(16)
            rng.shuffle(others)
            new = dict(zip(names_in(row), others))
            renamed = [item if isinstance(item, str) else (new[item[0]], item[1]) for item in row]
            strip, other = Strip(row), Strip(renamed)
            self.assertEqual(other.names(), [new[name] for name in strip.names()])
            for name in strip.names():
                self.assertEqual(other.places(new[name]), strip.places(name))
                self.assertEqual(other.orientations(new[name]), strip.orientations(name))
                self.assertEqual(other.names_between(new[name]), [new[n] for n in strip.names_between(name)])
                for second in strip.names():
                    self.assertIs(other.crosses(new[name], new[second]), strip.crosses(name, second))


class Equality(Case):
    def test_equal_rows(self):
        for row in sample_strip_rows():
            self.assert_equality(Strip(row), Strip(tuple(row)), True)
            self.assert_equality(Strip(row), Strip(row).flipped().flipped(), True)

    def test_rows_that_differ_in_one_item(self):
        row = ["a", P, "b", Q, "c", P, "D", ("q", True), ""]
        others = [
            ["A", P, "b", Q, "c", P, "D", ("q", True), ""],
            ["a", ("p", False), "b", Q, "c", P, "D", ("q", True), ""],
            ["a", P, "b", ("q", True), "c", P, "D", ("q", True), ""],
            ["a", P, "b", Q, "c", P, "D", ("q", False), ""],
            ["a", P, "b", Q, "c", P, "d", ("q", True), ""],
            ["a", P, "b", Q, "c", P, "D", ("q", True), "e"],
            ["a", P, "", Q, "bc", P, "D", ("q", True), ""],
            ["a", P, "b", P, "c", Q, "D", ("q", True), ""],
            ["a", ("r", True), "b", Q, "c", ("r", True), "D", ("q", True), ""],
            ["abc", P, "", P, "D"], ["abcD"], [""],
        ]
        for other in others:
            self.assert_equality(Strip(row), Strip(other), False)

    def test_all_sample_strips(self):
        rows = sample_strip_rows()[:40]
        for one in rows:
            for other in rows:
                self.assert_equality(Strip(one), Strip(other), one == other)

    def test_the_flipped_strip_is_equal_only_if_it_has_the_same_row(self):
        for row in sample_strip_rows():
            self.assert_equality(Strip(row), Strip(row).flipped(), row == flipped_items(row))
        for row in (["aA"], [""], ["", P, "", ("p", False), ""], ["b", P, "Cc", ("p", False), "B"]):
            self.assert_equality(Strip(row), Strip(row).flipped(), True)

    def test_values_of_other_kinds(self):
        for row in (["a"], [""], ["", P, "", P, ""], list(SAMPLE_ROW)):
            strip = Strip(row)
            for other in [row, tuple(row), str(strip), repr(strip), Ring(["a"]), Ring([""]),
                          Ring(["", P, "", P])] + any_values():
                if type(other) is Strip:
                    self.assert_equality(strip, other, strip.row() == other.row())
                else:
                    self.assert_equality(strip, other, False)


class Texts(Case):
    def test_the_example_of_31(self):
        row = ["aB", ("p", True), "", ("q", False), "c", ("p", False), "", ("q", False), "Dd"]
        self.assertEqual(str(Strip(row)), "aB p+ _ q- c p- _ q- Dd")
        self.assertEqual(repr(Strip(row)), "Strip(aB p+ _ q- c p- _ q- Dd)")

    def test_strips_of_every_size(self):
        for row in sample_strip_rows():
            text = " ".join(item_text(item) for item in row)
            self.assertEqual(str(Strip(row)), text)
            self.assertEqual(repr(Strip(row)), "Strip(" + text + ")")
            self.assertEqual(len(Strip(row)), len(row) // 4)


if __name__ == "__main__":
    unittest.main()
