"""Points 41 to 47, and what 7 to 9 say of operations."""

import copy
import itertools
import random

from markersplice.errors import InvalidOperation, InvalidStrip, NotApplicable, UnknownName
from markersplice.operations import (
    KINDS, applicable_count, apply_all, apply_op, available_ops, blocker, is_blocker, is_op, op_names, removes_all,
)
from markersplice.strips import Ring, Strip
from support import (
    SAMPLE_ROW, Case, PlainJoin, any_values, blockers_in, changed_sequences, complete_run, flipped_items,
    looks_like_op, mixed_strip_rows, name_list, names_in, nearly_ops, no_strips, ops_of, other_names, removed_by,
    renamed_row, sample_strip_rows,
)

P = ("p", True)
Q = ("q", True)
R = ("r", True)


def some_rows():
    return mixed_strip_rows() + sample_strip_rows()[::7]


class Forms(Case):
    def test_the_kinds(self):
        self.assertEqual(KINDS, ("loop", "flip", "swap"))
        self.assertIs(type(KINDS), tuple)

    def test_the_examples(self):
        self.assertEqual([is_op(("loop", "p")), is_op(("swap", "p", "p")), is_op(["loop", "p"])], [True, False, False])
        self.assertEqual(op_names(("swap", "q", "p")), ["q", "p"])
        self.assert_raises(InvalidOperation, value := ["loop", "p"], op_names, value)

    def test_values_of_every_kind(self):
        for value in any_values() + nearly_ops():
            expected = looks_like_op(value)
            self.assertIs(is_op(value), expected, value)
            self.assertIs(is_op(value=value), expected)
            if expected:
                self.assertEqual(op_names(value), list(value[1:]))
                self.assertEqual(op_names(op=value), list(value[1:]))
                self.assertIs(type(op_names(value)), list)
            else:
                self.assert_raises(InvalidOperation, value, op_names, value)
                self.assert_raises(InvalidOperation, value, op_names, op=value)

    def test_a_new_list_each_time(self):
        op = ("swap", "p", "q")
        op_names(op).clear()
        self.assertEqual(op_names(op), ["p", "q"])


class Blockers(Case):
    def test_the_example(self):
        strip = Strip(["", P, "", Q, "", P, "", Q, ""])
        ops = [("loop", "p"), ("flip", "p"), ("swap", "q", "p"), ("swap", "p", "q")]
        self.assertEqual([blocker(strip, op) for op in ops],
                         [("between", "q"), ("direct", "p"), ("order", "q", "p"), None])

    def test_every_operation_and_every_blocker(self):
        for row in some_rows():
            strip, names = Strip(row), names_in(row)[:5]
            values = [(word, name) for word in ("inverted", "between", "direct") for name in names + ["zzz"]]
            values += [(word, *pair) for word in ("uncrossed", "order") for pair in itertools.permutations(names, 2)]
            for op in ops_of(names):
                expected = blockers_in(row, op)
                first = blocker(strip, op)
                self.assertEqual(first, expected[0] if expected else None)
                self.assertIs(type(first), tuple if expected else type(None))
                for value in values:
                    self.assertIs(is_blocker(strip, op, value), value in expected, (row, op, value))
                for value in expected:
                    self.assertIs(is_blocker(strip, op, value), True)

    def test_more_than_one_applies(self):
        strip = Strip(["", ("p", False), "", Q, "", R, "", Q, "", P, "", ("r", False), ""])
        cases = [
            (("loop", "p"), [("inverted", "p"), ("between", "q"), ("between", "r")]),
            (("swap", "q", "p"), [("inverted", "p"), ("uncrossed", "q", "p"), ("order", "q", "p")]),
            (("swap", "r", "p"), [("inverted", "r"), ("inverted", "p"), ("order", "r", "p")]),
            (("swap", "p", "q"), [("inverted", "p"), ("uncrossed", "p", "q")]),
            (("flip", "q"), [("direct", "q")]), (("flip", "p"), []),
        ]
        for op, expected in cases:
            self.assertEqual(blocker(strip, op), expected[0] if expected else None)
            for value in expected:
                self.assertIs(is_blocker(strip, op, value), True)
        self.assertIs(is_blocker(strip, ("swap", "q", "p"), ("order", "p", "q")), False)
        self.assertIs(is_blocker(strip, ("swap", "q", "p"), ("uncrossed", "p", "q")), False)
        self.assertIs(is_blocker(strip, ("swap", "q", "p"), ("inverted", "r")), False)
        self.assertIs(is_blocker(strip, ("loop", "q"), ("inverted", "p")), False)
        self.assertIs(is_blocker(strip, ("flip", "p"), ("inverted", "p")), False)

    def test_values_of_other_forms(self):
        strip = Strip(["", ("p", False), "", Q, "", P, "", Q, ""])
        for op in (("loop", "p"), ("flip", "q"), ("swap", "q", "p"), ("swap", "p", "q"), ("flip", "p")):
            expected = blockers_in(strip.row(), op)
            for value in any_values() + nearly_ops() + [list(found) for found in expected]:
                self.assertIs(is_blocker(strip, op, value), False)
            for found in expected:
                for value in ((*found, "p"), found[:-1], (found, ), (found[0], list(found[1:])), "".join(found)):
                    self.assertIs(is_blocker(strip, op, value), False)
        self.assertIs(is_blocker(value=("inverted", "p"), op=("loop", "p"), strip=strip), True)
        self.assertEqual(blocker(op=("loop", "p"), strip=strip), ("inverted", "p"))


class Errors(Case):
    def calls(self):
        return [blocker, apply_op, lambda strip, op: is_blocker(strip, op, None)]

    def test_no_strips(self):
        for value in no_strips():
            for call in self.calls() + [apply_all, applicable_count, removes_all]:
                self.assert_raises(InvalidStrip, value, call, value, 0)
                self.assert_raises(InvalidStrip, value, call, value, [("loop", "p")])
            self.assert_raises(InvalidStrip, value, available_ops, value)
            self.assert_raises(InvalidStrip, value, available_ops, strip=value)
            self.assert_raises(InvalidStrip, value, apply_op, op=1, strip=value)
            self.assert_raises(InvalidStrip, value, apply_all, ops=1, strip=value)
            self.assert_raises(InvalidStrip, value, applicable_count, ops=1, strip=value)
            self.assert_raises(InvalidStrip, value, removes_all, value=1, strip=value)
            self.assert_raises(InvalidStrip, value, is_blocker, value=1, op=1, strip=value)

    def test_no_operations(self):
        strip = Strip(SAMPLE_ROW)
        for value in any_values() + nearly_ops():
            if not looks_like_op(value):
                for call in self.calls():
                    self.assert_raises(InvalidOperation, value, call, strip, value)

    def test_unknown_names(self):
        strip = Strip(["", P, "", Q, "", ("p", False), "", Q, ""])
        for call in self.calls():
            for op in (("loop", "r"), ("flip", "z"), ("swap", "pp", "p")):
                self.assert_raises(UnknownName, op[1], call, strip, op)
            self.assert_raises(UnknownName, "r", call, strip, ("swap", "p", "r"))
            self.assert_raises(UnknownName, "r", call, strip, ("swap", "r", "s"))
            self.assert_raises(UnknownName, "s", call, strip, ("swap", "s", "r"))
            self.assert_raises(UnknownName, "p", call, Strip(["a"]), ("loop", "p"))

    def test_not_applicable(self):
        for row in some_rows():
            strip = Strip(row)
            for op in ops_of(names_in(row)[:4]):
                expected = blockers_in(row, op)
                if expected:
                    caught = self.assert_raises(NotApplicable, op, apply_op, strip, op, attribute="op")
                    self.assertEqual(caught.blocker, expected[0])
                    self.assertIs(type(caught.blocker), tuple)
                    self.assert_raises(NotApplicable, op, apply_all, strip, [op], attribute="op")
                    self.assertEqual(strip.row(), row)

    def test_sequences(self):
        strip = Strip(["a", P, "b", Q, "c", P, "d", Q, "e", R, "f", R, "g"])
        for value in any_values():
            if type(value) not in (list, tuple):
                self.assert_raises(InvalidOperation, value, apply_all, strip, value)
                self.assert_raises(InvalidOperation, value, apply_all, ops=value, strip=strip)
                self.assert_raises(InvalidOperation, value, applicable_count, strip, value)
                self.assert_raises(InvalidOperation, value, applicable_count, ops=value, strip=strip)
            if not looks_like_op(value):
                for ops in ([value, 0], (("loop", "r"), value, ("loop", "z")), [("swap", "p", "q"), value]):
                    self.assert_raises(InvalidOperation, value, apply_all, strip, ops)
        self.assert_raises(UnknownName, "r", apply_all, strip, [("loop", "r"), ("loop", "r"), None])
        self.assert_raises(UnknownName, "p", apply_all, strip, [("swap", "p", "q"), ("flip", "p")])
        self.assert_raises(UnknownName, "z", apply_all, strip, (("loop", "r"), ("swap", "q", "z"), ("loop", "p")))
        op = ("swap", "q", "p")
        caught = self.assert_raises(NotApplicable, op, apply_all, strip, [("loop", "r"), op, None], attribute="op")
        self.assertEqual(caught.blocker, ("order", "q", "p"))
        op = ("loop", "p")
        caught = self.assert_raises(NotApplicable, op, apply_all, strip, [op, ("flip", "z"), 3], attribute="op")
        self.assertEqual(caught.blocker, ("between", "q"))

    def test_the_kept_value_is_the_very_object(self):
        ops = [["loop", "p"]]
        caught = self.assert_raises(InvalidOperation, ops[0], apply_all, Strip(["a"]), ops)
        ops[0].append("changed")
        self.assertEqual(caught.value, ["loop", "p", "changed"])


class Available(Case):
    def test_the_order(self):
        for row in some_rows():
            strip, names = Strip(row), names_in(row)
            order = {"loop": 0, "flip": 1, "swap": 2}
            expected = [op for op in ops_of(names) if not blockers_in(row, op)]
            expected.sort(key=lambda op: (names.index(op[1]), order[op[0]], names.index(op[-1])))
            found = available_ops(strip)
            self.assertEqual(found, expected)
            self.assertIs(type(found), list)
            self.assertTrue(all(looks_like_op(op) for op in found))
            self.assertEqual(available_ops(strip=strip), expected)
            self.assertEqual(len(found) > 0, len(names) > 0)
            for op in found:
                self.assertIsNone(blocker(strip, op))

    def test_a_case_with_all_kinds(self):
        strip = Strip(["", Q, "", P, "", R, "", Q, "", R, "", P, "", ("b", False), "", ("b", True), "",
                       ("a", False), "", ("a", False), ""])
        self.assertEqual(available_ops(strip), [("swap", "q", "p"), ("swap", "q", "r"), ("flip", "b"), ("loop", "a")])
        self.assertEqual(available_ops(Strip(["a"])), [])

    def test_a_new_list_each_time(self):
        strip = Strip(["", P, "", P, ""])
        available_ops(strip).clear()
        self.assertEqual(available_ops(strip), [("loop", "p")])


class Applying(Case):
    def test_loops(self):
        for marker in (P, ("p", False)):
            strip, ring = apply_op(Strip(["aB", marker, "cd", marker, "e"]), ("loop", "p"))
            self.assertEqual((strip.row(), ring), (["aBe"], Ring(["cd"])))
            strip, ring = apply_op(Strip(["", marker, "", marker, ""]), ("loop", "p"))
            self.assertEqual((strip.row(), ring), ([""], Ring([""])))
        strip, ring = apply_op(Strip(["a", Q, "b", P, "c", P, "d", Q, "e"]), ("loop", "p"))
        self.assertEqual((strip.row(), ring), (["a", Q, "bd", Q, "e"], Ring(["c"])))

    def test_flips(self):
        down = ("p", False)
        for one, other in ((P, down), (down, P)):
            strip, ring = apply_op(Strip(["a", one, "bC", other, "d"]), ("flip", "p"))
            self.assertEqual((strip.row(), ring), (["acBd"], None))
            strip, ring = apply_op(Strip(["a", one, "b", Q, "", other, "d", Q, "e"]), ("flip", "p"))
            self.assertEqual((strip.row(), ring), (["a", ("q", False), "Bd", Q, "e"], None))
            strip, ring = apply_op(Strip(["", one, "", Q, "", ("q", False), "x", other, ""]), ("flip", "p"))
            self.assertEqual((strip.row(), ring), (["X", Q, "", ("q", False), ""], None))

    def test_swaps(self):
        strip, ring = apply_op(Strip(["a", P, "b", Q, "c", P, "d", Q, "e"]), ("swap", "p", "q"))
        self.assertEqual((strip.row(), ring), (["adcbe"], None))
        row = ["a", P, "b", R, "c", ("q", False), "d", ("s", True), "e", P, "f", R, "g", ("s", False), "h",
               ("q", False), "i"]
        strip, ring = apply_op(Strip(row), ("swap", "p", "q"))
        expected = ["af", R, "g", ("s", False), "hd", ("s", True), "eb", R, "ci"]
        self.assertEqual((strip.row(), ring), (expected, None))

    def test_against_the_walk(self):
        for row in some_rows():
            strip = Strip(row)
            for op in available_ops(strip):
                joined = PlainJoin(row, op[1:])
                self.check(apply_op(strip, op), joined, op)
                self.check(apply_op(op=op, strip=strip), joined, op)
                self.assertEqual(strip.row(), row)
                left = apply_op(strip, op)[0].names()
                self.assertEqual(sorted(left), sorted(name for name in names_in(row) if name not in op[1:]))

    def check(self, found, joined, op):
        self.assertIs(type(found), tuple)
        strip, ring = found
        self.assertIs(type(strip), Strip)
        self.assertEqual(strip.row(), joined.rows[0])
        if op[0] == "loop":
            self.assertIs(type(ring), Ring)
            self.assertEqual(ring, Ring(joined.rows[1]))
            self.assertEqual(len(ring), 0)
        else:
            self.assertIsNone(ring)
            self.assertEqual(len(joined.rows), 1)

    def test_large_values(self):
        row = ["ab" * 4000, P, "c" * 3000, ("p", False), ""]
        self.assertEqual(apply_op(Strip(row), ("flip", "p"))[0].row(), ["ab" * 4000 + "C" * 3000])

    def test_equal_strips_give_equal_results(self):
        for row in some_rows()[::3]:
            for op in available_ops(Strip(row)):
                other = Strip(tuple(row)).flipped().flipped()
                self.assertEqual(apply_op(Strip(row), op), apply_op(other, op))


class Sequences(Case):
    def test_each_length(self):
        rng = random.Random(46)
        for row in some_rows():
            for ops, strip, rings in complete_run(rng, Strip(row)):
                for sequence in (ops, tuple(ops)):
                    found = apply_all(Strip(row), sequence)
                    self.assertIs(type(found), tuple)
                    self.assertIs(type(found[1]), list)
                    self.assertEqual(found, (strip, rings))
                    self.assertEqual(applicable_count(Strip(row), sequence), len(ops))
                    self.assertIs(type(applicable_count(Strip(row), sequence)), int)
                    self.assertIs(removes_all(Strip(row), sequence), len(strip) == 0)
                self.assertEqual(apply_all(ops=ops, strip=Strip(row)), (strip, rings))
                self.assertEqual(applicable_count(ops=ops, strip=Strip(row)), len(ops))
                self.assertIs(removes_all(value=ops, strip=Strip(row)), len(strip) == 0)

    def test_one_change(self):
        rng = random.Random(47)
        for row in some_rows():
            ops = complete_run(rng, Strip(row))[-1][0]
            for changed in changed_sequences(rng, ops, names_in(row)):
                count, left = 0, Strip(row)
                for item in changed:
                    if not looks_like_op(item) or not set(item[1:]) <= set(left.names()):
                        break
                    if blockers_in(left.row(), item):
                        break
                    left, _ = apply_op(left, item)
                    count += 1
                for sequence in (changed, tuple(changed)):
                    self.assertEqual(applicable_count(Strip(row), sequence), count)
                    self.assertIs(removes_all(Strip(row), sequence), count == len(changed) and len(left) == 0)
                if count < len(changed):
                    with self.assertRaises((InvalidOperation, UnknownName, NotApplicable)):
                        apply_all(Strip(row), changed)

    def test_values_that_are_no_sequences(self):
        for row, right in ((["a"], ([], ())), (["a", Q, "b", Q, "c"], ([("loop", "q")],))):
            for value in any_values():
                self.assertIs(removes_all(Strip(row), value), value in right)
            for value in right:
                self.assertIs(removes_all(Strip(row), value), True)
            self.assertIs(removes_all(Strip(row), ("loop", "q")), False)
            self.assertIs(removes_all(Strip(row), {("loop", "q"): 1}), False)

    def test_the_empty_sequence(self):
        strip = Strip(SAMPLE_ROW)
        self.assertEqual(apply_all(strip, []), (strip, []))
        self.assertEqual(applicable_count(strip, ()), 0)
        self.assertIs(removes_all(strip, []), False)

    def test_the_arguments_are_unchanged_and_the_results_new(self):
        strip, ops = Strip(["a", P, "b", P, "c"]), [("loop", "p")]
        kept = copy.deepcopy(ops)
        first, second = apply_all(strip, ops)[1], apply_all(strip, ops)[1]
        self.assertEqual((first, ops, strip.row()), (second, kept, ["a", P, "b", P, "c"]))
        self.assertIsNot(first, second)
        first.clear()
        self.assertEqual(apply_all(strip, ops)[1], [Ring(["b"])])


class Guarantees(Case):
    """Point 47, and what point 9 says of operations."""

    def test_runs_to_the_end(self):
        rng = random.Random(48)
        for row in some_rows():
            for ops, strip, rings in complete_run(rng, Strip(row)):
                removed = removed_by(ops)
                self.assertEqual(sorted(removed + strip.names()), sorted(names_in(row)))
                self.assertEqual(len(rings), sum(op[0] == "loop" for op in ops))
                self.assertEqual([ring.names() for ring in rings], [[]] * len(rings))
                self.assertLessEqual(len(ops), 12)

    def test_the_result_depends_on_the_names_only(self):
        rng = random.Random(49)
        for row in some_rows():
            seen = {}
            for _ in range(6):
                for ops, strip, rings in complete_run(rng, Strip(row)):
                    key = tuple(sorted(removed_by(ops)))
                    first = seen.setdefault(key, (strip, rings))
                    self.assertEqual(strip, first[0])
                    self.assert_same_rings(rings, first[1])

    def test_all_sequences_of_small_strips(self):
        for row in [row for row in mixed_strip_rows() if len(row) <= 13]:
            seen = {}
            states = [([], Strip(row), [])]
            for ops, strip, rings in states:
                first = seen.setdefault(tuple(sorted(removed_by(ops))), (strip, rings))
                self.assertEqual(strip, first[0])
                self.assert_same_rings(rings, first[1])
                for op in available_ops(strip):
                    left, ring = apply_op(strip, op)
                    states.append((ops + [op], left, rings + ([ring] if op[0] == "loop" else [])))

    def test_the_flipped_strip(self):
        for row in some_rows():
            strip, flipped = Strip(row), Strip(row).flipped()
            turned = {op: op if op[0] != "swap" else ("swap", op[2], op[1]) for op in available_ops(strip)}
            self.assertEqual(sorted(turned.values()), sorted(available_ops(flipped)))
            for op in turned:
                left, ring = apply_op(strip, op)
                other, same = apply_op(flipped, turned[op])
                self.assertEqual(other.row(), flipped_items(left.row()))
                self.assertEqual(same, ring)

    def test_with_other_names(self):
        rng = random.Random(9)
        for row in some_rows()[::2]:
            new = other_names(rng, names_in(row))
            strip, other = Strip(row), Strip(renamed_row(row, new))
            for op in available_ops(strip):
                same = (op[0], *[new[name] for name in op[1:]])
                left, ring = apply_op(strip, op)
                renamed, cut = apply_op(other, same)
                self.assertEqual(renamed.row(), renamed_row(left.row(), new))
                self.assertEqual(cut, ring)
            self.assertEqual(available_ops(other),
                             [(op[0], *[new[name] for name in op[1:]]) for op in available_ops(strip)])

    def test_twelve_names(self):
        names = name_list(12)
        loops = Strip([""] + [item for name in names for item in ((name, True), name, (name, True), "")])
        self.assertEqual(available_ops(loops), [("loop", name) for name in names])
        strip, rings = apply_all(loops, [("loop", name) for name in names])
        self.assertEqual((strip.row(), rings), ([""], [Ring([name]) for name in names]))
        chain = Strip([""] + [item for name in names * 2 for item in ((name, True), "")])
        self.assertEqual(len(available_ops(chain)), 66)
