"""Points 71 to 78, and what 7 to 9 say of removing names."""

import collections
import copy
import itertools
import math
import random

from markersplice.errors import InvalidNames, InvalidStrip, UnknownName, Unreachable
from markersplice.joining import JoinedStrip
from markersplice.operations import apply_all
from markersplice.removal import (
    first_names, is_blocking_ring, is_removable, last_names, ops_for, ops_leaving, ops_via, removable_sets,
    removes_exactly, sequence_counts,
)
from markersplice.strips import Strip
from support import (
    SAMPLE_ROW, SHAPES, Case, PlainJoin, any_values, changed_sequences, complete_run, every_sequence, every_subset,
    first_kept, flipped_items, left_by, looks_like_op, mixed_strip_rows, name_list, names_in, nearly_ops,
    no_name_lists, no_strips, other_names, removed_by, renamed_row, sample_strip_rows, shaped_row, small_rows, subsets,
)

P = ("p", True)
Q = ("q", True)
CROSSING = ["a", P, "b", Q, "c", P, "d", Q, "e"]


def searched_sets(row):
    """The sets of names that any operations remove, as frozensets, found by trying all sequences."""
    return {frozenset(removed_by(ops)) for ops, _ in every_sequence(Strip(row))}


def twelve_name_strips():
    rows = [row for row in mixed_strip_rows() + sample_strip_rows() if len(row) == 49]
    return [Strip(row) for row in rows[::2] + [shaped_row(shape, 12) for shape in SHAPES]]


class RemovalCase(Case):
    def check_ops(self, strip, names, ops):
        """Ask for operations that remove exactly these names."""
        self.assertIs(type(ops), list)
        self.assertTrue(all(looks_like_op(op) for op in ops))
        self.assertEqual(sorted(removed_by(ops)), sorted(names))
        left = left_by(strip, ops)
        self.assertIsNotNone(left)
        self.assertEqual(sorted(left.names()), sorted(name for name in strip.names() if name not in names))

    def assert_unreachable(self, row, names, call, *args):
        """Ask for Unreachable with what the first ring with a marker tells."""
        with self.assertRaises(Unreachable) as caught:
            call(*args)
        self.assertIs(type(caught.exception), Unreachable)
        found = (caught.exception.ring, caught.exception.name)
        self.assertEqual(found, first_kept(PlainJoin(row, names)))
        self.assertEqual([type(value) for value in found], [int, str])


class Removable(RemovalCase):
    """Points 71 and 72."""

    def test_every_set_of_small_strips(self):
        rng = random.Random(71)
        for row in small_rows():
            strip, found = Strip(row), searched_sets(row)
            for names in every_subset(names_in(row)):
                expected = frozenset(names) in found
                for given in (rng.sample(names, len(names)), tuple(names[::-1])):
                    self.assertIs(is_removable(strip, given), expected)
                    if expected:
                        self.check_ops(strip, names, ops_for(strip, given))
                    else:
                        self.assert_unreachable(row, names, ops_for, strip, given)

    def test_large_strips(self):
        rng = random.Random(72)
        for row in mixed_strip_rows() + sample_strip_rows() + [shaped_row(shape, 12) for shape in SHAPES]:
            strip = Strip(row)
            for names in subsets(rng, names_in(row), 8) + [removed_by(ops) for ops, _, _ in complete_run(rng, strip)]:
                expected = first_kept(PlainJoin(row, names)) is None
                self.assertIs(is_removable(names=names, strip=strip), expected)
                if expected:
                    self.check_ops(strip, names, ops_for(names=names, strip=strip))
                else:
                    self.assert_unreachable(row, names, ops_for, strip, names)

    def test_no_names_and_all_names(self):
        for row in small_rows() + sample_strip_rows()[::5]:
            strip = Strip(row)
            self.assertIs(is_removable(strip, []), True)
            self.assertEqual(ops_for(strip, ()), [])
            self.assertIs(is_removable(strip, tuple(strip.names())), True)
            self.check_ops(strip, strip.names(), ops_for(strip, strip.names()[::-1]))

    def test_a_chosen_case(self):
        self.assertEqual(ops_for(Strip(CROSSING), ["q", "p"]), [("swap", "p", "q")])
        self.assert_unreachable(CROSSING, ["p"], ops_for, Strip(CROSSING), ["p"])
        # Both rings keep markers; the first one's text begins with the name that sorts first.
        row = ["", P, "", ("z", True), "", ("b", False), "", P, "", Q, "", ("z", False), "", ("b", True), "", Q, ""]
        with self.assertRaises(Unreachable) as caught:
            ops_for(Strip(row), ["q", "p"])
        self.assertEqual((caught.exception.ring, caught.exception.name), (1, "b"))
        row = ["", P, "", P, "", Q, "", ("a", True), "", ("a", True), "", Q, ""]
        with self.assertRaises(Unreachable) as caught:
            ops_for(Strip(row), ["q", "p"])
        self.assertEqual((caught.exception.ring, caught.exception.name), (2, "a"))

    def test_a_new_list_each_time(self):
        for row in small_rows():
            strip = Strip(row)
            first = ops_for(strip, strip.names())
            expected = list(first)
            first.append("changed")
            first[0] = "changed"
            self.assertEqual(ops_for(strip, strip.names()), expected)
            self.assertEqual(ops_for(Strip(tuple(row)).flipped().flipped(), strip.names()), expected)

    def test_the_arguments_are_unchanged(self):
        for row in small_rows()[::3]:
            strip, names = Strip(row), names_in(row)
            ops = ops_for(strip, names)
            kept = copy.deepcopy((row, names, ops))
            for call in (is_removable, ops_for):
                call(strip, names)
            removes_exactly(strip, names, ops)
            is_blocking_ring(strip, names, (1, "p"))
            ops_via(strip, names, names)
            self.assertEqual((strip.row(), names, ops), kept)


class Certificates(RemovalCase):
    """Point 73."""

    def test_every_sequence_with_every_set(self):
        for row in [row for row in small_rows() if len(row) <= 13]:
            strip = Strip(row)
            for ops, _ in every_sequence(strip):
                for names in every_subset(names_in(row)):
                    expected = sorted(removed_by(ops)) == sorted(names)
                    self.assertIs(removes_exactly(strip, names, ops), expected)
                    self.assertIs(removes_exactly(value=tuple(ops), names=tuple(names[::-1]), strip=strip), expected)

    def test_one_change(self):
        rng = random.Random(73)
        for row in small_rows() + sample_strip_rows()[::4]:
            strip = Strip(row)
            for ops, _, _ in complete_run(rng, strip):
                names = removed_by(ops)
                self.assertIs(removes_exactly(strip, names, ops), True)
                others = [name for name in names_in(row) if name not in names]
                for changed in changed_sequences(rng, ops, names_in(row)):
                    left = left_by(strip, changed)
                    expected = left is not None and sorted(left.names()) == sorted(others)
                    self.assertIs(removes_exactly(strip, names, changed), expected, (row, names, changed))
                    self.assertIs(removes_exactly(strip, names, tuple(changed)), expected)
                for given in (names + others[:1], names[1:]):
                    self.assertIs(removes_exactly(strip, given, ops), sorted(given) == sorted(names))

    def test_other_names_and_forms_of_sequences(self):
        strip = Strip(["a", P, "b", P, "c", Q, "d", Q, "e"])
        for value in any_values() + nearly_ops() + [{("loop", "p"): 1}, "loop p", [["loop", "p"]], [("loop", "q")],
                                                    [("loop", "p"), ("loop", "q")], [("loop", "p"), ("loop", "p")]]:
            self.assertIs(removes_exactly(strip, ["p"], value), value in ([("loop", "p")], (("loop", "p"),)), value)
            self.assertIs(removes_exactly(strip, [], value), value in ([], ()))
        for value in ([("loop", "p")], (("loop", "p"),)):
            self.assertIs(removes_exactly(strip, ["p"], value), True)

    def test_every_ring_with_every_name(self):
        rng = random.Random(74)
        for row in small_rows() + sample_strip_rows()[::5]:
            strip = Strip(row)
            for names in subsets(rng, names_in(row), 6):
                rows = PlainJoin(row, names).rows
                found = []
                for number in range(-1, len(rows) + 2):
                    for name in names_in(row) + ["yyy", "", "P"]:
                        ring = rows[number] if 1 <= number < len(rows) else []
                        expected = name in [marker[0] for marker in ring[1::2]]
                        self.assertIs(is_blocking_ring(strip, names, (number, name)), expected)
                        self.assertIs(is_blocking_ring(value=(number, name), names=names, strip=strip), expected)
                        found.extend([(number, name)] * expected)
                self.assertIs(is_removable(strip, names), found == [])

    def test_values_that_are_nearly_blocking_rings(self):
        strip = Strip(CROSSING)
        self.assertIs(is_blocking_ring(strip, ["p"], (1, "q")), True)
        for value in any_values() + nearly_ops() + [
                (True, "q"), [1, "q"], (1, "p"), (0, "q"), (2, "q"), (-1, "q"), ("1", "q"), ("q", 1), (1, ["q"]), (1,),
                (1, "q", "q"), (1, ("q", True)), ((1, "q"),), (None, "q"), (1, None), "1 q", {1: "q"}, ([1], "q"),
                (10 ** 29, "q"), (1, "q+")]:
            self.assertIs(is_blocking_ring(strip, ["p"], value), False, value)
        self.assertIs(is_blocking_ring(strip, ["p", "q"], (1, "q")), False)
        # False is no number of a part, and part 0 is no ring.
        row = ["a", Q, "b", P, "c", P, "d", Q, "e"]
        for number in (0, False, 1, True):
            self.assertIs(is_blocking_ring(Strip(row), ["p"], (number, "q")), False)


class Errors(RemovalCase):
    def calls(self):
        return [is_removable, ops_for, lambda strip, names: removes_exactly(strip, names, None),
                lambda strip, names: is_blocking_ring(strip, names, None),
                lambda strip, names: ops_via(strip, names, ["zz", "zz"])]

    def test_no_strips(self):
        for value in no_strips():
            for call in self.calls():
                for names in ([], ["p"], ["p", "p"], None):
                    self.assert_raises(InvalidStrip, value, call, value, names)
            self.assert_raises(InvalidStrip, value, is_removable, names=0, strip=value)
            self.assert_raises(InvalidStrip, value, ops_for, names=0, strip=value)
            self.assert_raises(InvalidStrip, value, removes_exactly, value=0, names=0, strip=value)
            self.assert_raises(InvalidStrip, value, is_blocking_ring, value=0, names=0, strip=value)
            for call in (removable_sets, sequence_counts, first_names, last_names):
                self.assert_raises(InvalidStrip, value, call, value)
                self.assert_raises(InvalidStrip, value, call, strip=value)
            self.assert_raises(InvalidStrip, value, ops_leaving, value, 0, 0)
            self.assert_raises(InvalidStrip, value, ops_leaving, other=0, one=0, strip=value)
            self.assert_raises(InvalidStrip, value, ops_via, more=0, names=0, strip=value)

    def test_no_names(self):
        strip = Strip(SAMPLE_ROW)
        for value in no_name_lists():
            for call in self.calls():
                self.assert_raises(InvalidNames, value, call, strip, value)

    def test_unknown_names(self):
        strip = Strip(SAMPLE_ROW)
        for names, first in ((["s"], "s"), (["a", "t", "s"], "t"), (("d", "aa", "p"), "aa"), (name_list(16), "q"),
                             (["b", "bb", "a"], "bb")):
            for call in self.calls():
                self.assert_raises(UnknownName, first, call, strip, names)


class Sets(RemovalCase):
    """Point 74."""

    def test_against_the_search(self):
        for row in small_rows():
            found, names = searched_sets(row), names_in(row)
            # The sets by size, those of equal size by the lists of the indices of their names.
            expected = [tuple(chosen) for chosen in every_subset(names) if frozenset(chosen) in found]
            expected.sort(key=lambda chosen: (len(chosen), [names.index(name) for name in chosen]))
            sets = removable_sets(Strip(row))
            self.assertEqual(sets, expected)
            self.assertEqual({type(item) for item in sets}, {tuple})
            self.assertIs(type(sets), list)
            self.assertEqual(removable_sets(strip=Strip(row)), expected)

    def test_large_strips(self):
        rng = random.Random(75)
        for strip in twelve_name_strips():
            sets, names = removable_sets(strip), strip.names()
            order = [(len(chosen), [names.index(name) for name in chosen]) for chosen in sets]
            self.assertEqual(order, sorted(order))
            self.assertEqual(len(set(sets)), len(sets))
            self.assertEqual((sets[0], sets[-1]), ((), tuple(names)))
            for chosen in rng.sample(every_subset(names), 40) + rng.sample(sets, min(20, len(sets))):
                self.assertIs(tuple(chosen) in sets, first_kept(PlainJoin(strip.row(), chosen)) is None)

    def test_shapes_of_twelve_names(self):
        totals = {"apart": 4096, "nested": 13, "crossing": 2048, "turned apart": 4096}
        for shape in totals:
            self.assertEqual(len(removable_sets(Strip(shaped_row(shape, 12)))), totals[shape])

    def test_a_new_list_each_time(self):
        strip = Strip(CROSSING)
        removable_sets(strip).clear()
        self.assertEqual(removable_sets(strip), [(), ("p", "q")])


class Counts(RemovalCase):
    """Point 75."""

    def test_against_the_search(self):
        for row in small_rows():
            lengths = collections.Counter(len(ops) for ops, left in every_sequence(Strip(row)) if len(left) == 0)
            counts = sequence_counts(Strip(row))
            self.assertIs(type(counts), dict)
            self.assertEqual(list(counts.items()), sorted(lengths.items()))
            for number in (*counts, *counts.values()):
                self.assertIs(type(number), int)
            self.assertEqual(sequence_counts(strip=Strip(row)), counts)

    def test_without_names(self):
        self.assertEqual(sequence_counts(Strip(["aB"])), {0: 1})

    def test_shapes_of_twelve_names(self):
        totals = {"apart": {12: math.factorial(12)}, "nested": {12: 1}, "turned apart": {12: math.factorial(12)},
                  "crossing": {6: math.factorial(12) // 2 ** 6}}
        for shape in totals:
            self.assertEqual(sequence_counts(Strip(shaped_row(shape, 12))), totals[shape])

    def test_large_strips(self):
        rng = random.Random(76)
        for strip in twelve_name_strips():
            counts = sequence_counts(strip)
            self.assertEqual(list(counts), sorted(counts))
            self.assertTrue(all(many > 0 for many in counts.values()))
            self.assertIn(len(complete_run(rng, strip)[-1][0]), counts)
            self.assertIn(len(ops_for(strip, strip.names())), counts)

    def test_a_new_dict_each_time(self):
        strip = Strip(CROSSING)
        sequence_counts(strip).clear()
        self.assertEqual(sequence_counts(strip), {1: 1})


class FirstAndLast(RemovalCase):
    """Point 76."""

    def test_against_the_search(self):
        for row in small_rows():
            strip = Strip(row)
            complete = [ops for ops, left in every_sequence(strip) if len(left) == 0 and ops]
            first = {name for ops in complete for name in ops[0][1:]}
            last = {name for ops in complete for name in ops[-1][1:]}
            for call, expected in ((first_names, first), (last_names, last)):
                found = call(strip)
                self.assertEqual(found, [name for name in names_in(row) if name in expected])
                self.assertIs(type(found), list)
                self.assertEqual(call(strip=strip), found)
                found.append("changed")
                self.assertEqual(call(strip), found[:-1])

    def test_large_strips(self):
        rng = random.Random(77)
        for strip in twelve_name_strips():
            ops = complete_run(rng, strip)[-1][0]
            first, last = first_names(strip), last_names(strip)
            self.assertLessEqual(set(ops[0][1:]), set(first))
            self.assertLessEqual(set(ops[-1][1:]), set(last))
            for found in (first, last):
                self.assertEqual(found, [name for name in strip.names() if name in found])

    def test_shapes_of_twelve_names(self):
        names = name_list(12)
        expected = {"apart": (names, names), "nested": (names[-1:], names[:1]), "crossing": (names, names),
                    "turned apart": (names, names)}
        for shape in expected:
            strip = Strip(shaped_row(shape, 12))
            self.assertEqual((first_names(strip), last_names(strip)), expected[shape])


class Leaving(RemovalCase):
    """Point 77."""

    def check_leaving(self, strip, one, other, ops):
        self.assertIs(type(ops), list)
        left = left_by(strip, ops)
        self.assertIsNotNone(left)
        self.assertIn(one, left.names())
        self.assertNotIn(other, left.names())

    def test_every_pair_of_small_strips(self):
        for row in small_rows():
            strip, found = Strip(row), searched_sets(row)
            for one, other in itertools.product(names_in(row), repeat=2):
                ops = ops_leaving(strip, one, other)
                if any(other in removed and one not in removed for removed in found):
                    self.check_leaving(strip, one, other, ops)
                    self.assertEqual(ops_leaving(other=other, one=one, strip=strip), ops)
                    expected = list(ops)
                    ops.clear()
                    self.assertEqual(ops_leaving(strip, one, other), expected)
                else:
                    self.assertIsNone(ops)

    def test_large_strips(self):
        rng = random.Random(78)
        for strip in twelve_name_strips():
            sets = removable_sets(strip)
            for _ in range(12):
                one, other = rng.choice(strip.names()), rng.choice(strip.names())
                ops = ops_leaving(strip, one, other)
                if any(other in removed and one not in removed for removed in sets):
                    self.check_leaving(strip, one, other, ops)
                else:
                    self.assertIsNone(ops)

    def test_the_same_name(self):
        for row in small_rows():
            for name in names_in(row):
                self.assertIsNone(ops_leaving(Strip(row), name, name))

    def test_unknown_names(self):
        strip = Strip(CROSSING)
        for value in any_values() + ["z", ["p"], ("p",), {"p": 1}, "P"]:
            if value not in ("p", "q"):
                self.assert_raises(UnknownName, value, ops_leaving, strip, value, "p")
                self.assert_raises(UnknownName, value, ops_leaving, strip, value, ["other"])
                self.assert_raises(UnknownName, value, ops_leaving, strip, value, value)
                self.assert_raises(UnknownName, value, ops_leaving, strip, "p", value)
                self.assert_raises(UnknownName, value, ops_leaving, other=value, one="q", strip=strip)
                self.assert_raises(UnknownName, value, ops_leaving, other="z", one=value, strip=strip)
        self.assert_raises(UnknownName, "p", ops_leaving, Strip(["a"]), "p", "p")


class Via(RemovalCase):
    """Point 78."""

    def check_via(self, strip, names, more, found):
        self.assertIs(type(found), tuple)
        first, second = found
        self.check_ops(strip, names, first)
        self.check_ops(apply_all(strip, first)[0], [name for name in more if name not in names], second)

    def test_every_pair_of_sets_of_small_strips(self):
        rng = random.Random(79)
        for row in [row for row in small_rows() if len(row) <= 17]:
            strip, found = Strip(row), searched_sets(row)
            for names, more in itertools.product(every_subset(names_in(row)), repeat=2):
                given = rng.sample(names, len(names)), tuple(rng.sample(more, len(more)))
                if not set(names) <= set(more):
                    self.assert_raises(InvalidNames, given[0], ops_via, strip, *given)
                elif frozenset(names) not in found:
                    self.assert_unreachable(row, names, ops_via, strip, *given)
                elif frozenset(more) not in found:
                    self.assert_unreachable(row, more, ops_via, strip, *given)
                else:
                    self.check_via(strip, names, more, ops_via(strip, *given))
                    self.check_via(strip, names, more, ops_via(more=given[1], names=given[0], strip=strip))

    def test_large_strips(self):
        rng = random.Random(80)
        for row in mixed_strip_rows() + sample_strip_rows()[::3]:
            strip = Strip(row)
            sets = [removed_by(ops) for ops, _, _ in complete_run(rng, strip)]
            for names, more in itertools.combinations_with_replacement(sets, 2):
                self.check_via(strip, names, more, ops_via(strip, names, more))

    def test_the_order_of_the_errors(self):
        strip = Strip(CROSSING)
        for value in no_name_lists():
            self.assert_raises(InvalidNames, value, ops_via, strip, value, ["z"])
            self.assert_raises(InvalidNames, value, ops_via, strip, ["p", "q"], value)
            self.assert_raises(UnknownName, "z", ops_via, strip, ["z"], value)
        self.assert_raises(UnknownName, "z", ops_via, strip, ["p", "z", "y"], ["y"])
        self.assert_raises(UnknownName, "y", ops_via, strip, ["p", "q"], ["p", "y", "x"])
        names = ["p", "q"]
        # The smaller set is not contained, before either of the two is not removable.
        self.assert_raises(InvalidNames, names, ops_via, strip, names, ["p"])
        names = ["p"]
        self.assert_raises(InvalidNames, names, ops_via, strip, names, ["q"])
        row = ["", P, "", Q, "", ("r", True), "", ("r", True), "", Q, "", P, ""]
        self.assert_unreachable(row, ["p"], ops_via, Strip(row), ["p"], ["p", "q"])
        self.assert_unreachable(row, ["p", "r"], ops_via, Strip(row), ["r"], ["r", "p"])

    def test_new_lists_each_time(self):
        strip = Strip(["", P, "", P, "", Q, "", Q, ""])
        expected = ([("loop", "p")], [("loop", "q")])
        for _ in range(2):
            found = ops_via(strip, ["p"], ["q", "p"])
            self.assertEqual(found, expected)
            found[0].append("changed")
            found[1].clear()


class Guarantees(RemovalCase):
    """What point 9 says of removing names."""

    def test_with_other_names(self):
        rng = random.Random(9)
        for row in small_rows()[::2]:
            new = other_names(rng, names_in(row))
            strip, other = Strip(row), Strip(renamed_row(row, new))
            self.assertEqual(removable_sets(other),
                             [tuple(new[name] for name in chosen) for chosen in removable_sets(strip)])
            self.assertEqual(sequence_counts(other), sequence_counts(strip))
            self.assertEqual(first_names(other), [new[name] for name in first_names(strip)])
            self.assertEqual(last_names(other), [new[name] for name in last_names(strip)])

    def test_the_flipped_strip(self):
        for row in small_rows()[::2]:
            strip, flipped = Strip(row), Strip(flipped_items(row))
            self.assertEqual({frozenset(chosen) for chosen in removable_sets(flipped)},
                             {frozenset(chosen) for chosen in removable_sets(strip)})
            self.assertEqual(sequence_counts(flipped), sequence_counts(strip))
            self.assertEqual(sorted(first_names(flipped)), sorted(first_names(strip)))
            self.assertEqual(sorted(last_names(flipped)), sorted(last_names(strip)))

    def test_exactly_one_kind_of_certificate(self):
        rng = random.Random(81)
        for row in mixed_strip_rows():
            strip = Strip(row)
            for names in subsets(rng, names_in(row), 6):
                values = [(number, name) for number in range(14) for name in names_in(row)]
                blocking = [value for value in values if is_blocking_ring(strip, names, value)]
                self.assertIs(is_removable(strip, names), blocking == [])
                if not blocking:
                    self.assertIs(removes_exactly(strip, names, ops_for(strip, names)), True)

    def test_large_pieces(self):
        row = ["ab" * 4000, P, "c" * 3000, ("p", False), "", Q, "d" * 5000, Q, ""]
        self.assertEqual(removable_sets(Strip(row)), [(), ("p",), ("q",), ("p", "q")])
        left, _ = apply_all(Strip(row), ops_for(Strip(row), ["p"]))
        self.assertEqual(JoinedStrip(Strip(row), ["p"]).remaining(), left)
