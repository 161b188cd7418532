"""Points 91 to 94, and what 7 to 9 say of allowed kinds."""

import itertools
import random

from markersplice.errors import InvalidKinds, InvalidStrip
from markersplice.kinds import is_kinds_certificate, kinds_certificate, suffices
from markersplice.operations import apply_op, available_ops
from markersplice.strips import Strip
from support import (
    SHAPES, Case, PlainJoin, any_values, changed_sequences, complete_run, cross_in, flipped_items, inverted_in,
    left_by, mixed_strip_rows, names_in, no_strips, other_names, renamed_row, sample_strip_rows, shaped_row, small_rows,
)

P = ("p", True)
Q = ("q", True)
KINDS = ("loop", "flip", "swap")
CROSSING = ["a", P, "b", Q, "c", P, "d", Q, "e"]
# One component of direct names stands within the other.
TWO_GROUPS = ["", P, "", Q, "", ("b", True), "", ("a", True), "", ("b", True), "", ("a", True), "", P, "", Q, ""]


def all_kinds():
    """All eight sets of kinds, as tuples."""
    return [kinds for total in range(4) for kinds in itertools.combinations(KINDS, total)]


def searched(strip, kinds, seen):
    """Whether some operations of these kinds leave no marker, found by trying all."""
    key = str(strip)
    if key not in seen:
        seen[key] = len(strip) == 0 or any(
            searched(apply_op(strip, op)[0], kinds, seen) for op in available_ops(strip) if op[0] in kinds)
    return seen[key]


def groups_in(row):
    """The components of two or more names that are all direct, in the order of their first names."""
    left, found = names_in(row), []
    while left:
        group = [left[0]]
        for name in group:
            group.extend(other for other in left if other not in group and cross_in(row, name, other))
        left = [name for name in left if name not in group]
        if len(group) > 1 and not any(inverted_in(row, name) for name in group):
            found.append([name for name in names_in(row) if name in group])
    return found


def obstacles_in(row, kinds):
    """All obstacles of point 92 with these kinds, the first that applies first."""
    found = []
    if "flip" not in kinds:
        found += [("blocked", "inverted", name) for name in names_in(row) if inverted_in(row, name)]
    if "loop" not in kinds:
        rings = PlainJoin(row, names_in(row)).rows[1:]
        found += [("blocked", "ring", number) for number, _ in enumerate(rings, 1)]
    if "swap" not in kinds:
        found += [("blocked", "component", group) for group in groups_in(row)]
    return found


def shows(row, kinds, value):
    """Whether a value is a certificate of point 93."""
    if type(value) is not tuple or len(value) not in (2, 3):
        return False
    if len(value) == 2:
        left = left_by(Strip(row), value[1])
        return (value[0] == "operations" and left is not None and len(left) == 0
                and all(op[0] in kinds for op in value[1]))
    for _, reason, detail in obstacles_in(row, kinds):
        if value[:2] != ("blocked", reason) or type(value[2]) is not type(detail):
            continue
        if value[2] == detail or (reason == "component" and sorted(map(repr, value[2])) == sorted(map(repr, detail))):
            return True
    return False


def some_rows():
    return [TWO_GROUPS] + rows_of_three()[::7] + small_rows() + mixed_strip_rows()[::2] + sample_strip_rows()[::6]


def clear_rows():
    """Rows without a component of two or more direct names."""
    return [row for row in mixed_strip_rows() + sample_strip_rows() + rows_of_three() if not groups_in(row)]


def rows_of_three():
    """Rows with three names, in every order and with each choice of the inverted ones."""
    rows = []
    for order in sorted(set(itertools.permutations("ppqqrr"))):
        for turned in itertools.product((True, False), repeat=3):
            row = [""]
            for index, name in enumerate(order):
                row.extend([(name, name not in order[:index] or turned["pqr".index(name)]), ""])
            rows.append(row)
    return rows


class Sufficient(Case):
    """Points 92 and 94."""

    def test_against_the_search(self):
        for row in small_rows():
            for kinds in all_kinds():
                self.assertIs(suffices(Strip(row), kinds), searched(Strip(row), kinds, {}), (row, kinds))

    def test_every_set_of_kinds_in_any_order(self):
        for row in some_rows() + [shaped_row(shape, 12) for shape in SHAPES]:
            for chosen in all_kinds():
                obstacles = obstacles_in(row, chosen)
                for kinds in itertools.permutations(chosen):
                    for given in (kinds, list(kinds)):
                        self.assertIs(suffices(Strip(row), given), not obstacles)
                        value = kinds_certificate(Strip(row), given)
                        self.assertIs(is_kinds_certificate(Strip(row), given, value), True)
                        self.assertTrue(shows(row, kinds, value))
                        self.assertIs(type(value), tuple)
                        if obstacles:
                            self.assertEqual(value, obstacles[0])
                        else:
                            self.assertEqual((value[0], type(value[1])), ("operations", list))
                value = kinds_certificate(strip=Strip(row), kinds=chosen)
                self.assertIs(suffices(kinds=chosen, strip=Strip(row)), not obstacles)
                self.assertIs(is_kinds_certificate(value=value, kinds=chosen, strip=Strip(row)), True)

    def test_the_example(self):
        strip = Strip(CROSSING)
        self.assertEqual([kinds_certificate(strip, ["swap"]), kinds_certificate(strip, ["flip", "loop"])],
                         [("operations", [("swap", "p", "q")]), ("blocked", "component", ["p", "q"])])

    def test_without_markers(self):
        for kinds in all_kinds():
            self.assertIs(suffices(Strip(["aB"]), kinds), True)
            self.assertEqual(kinds_certificate(Strip(["aB"]), kinds), ("operations", []))
            for value in (("operations", []), ("operations", ())):
                self.assertIs(is_kinds_certificate(Strip(["aB"]), kinds, value), True)
            for value in (("blocked", "ring", 1), ("blocked", "component", []), ("blocked", "inverted", "p")):
                self.assertIs(is_kinds_certificate(Strip(["aB"]), kinds, value), False)

    def test_the_first_reason(self):
        # p is inverted; q and r are direct and cross; s makes a ring.
        row = ["", ("s", True), "", ("s", True), "", ("q", True), "", ("r", True), "", ("q", True), "", ("r", True), "",
               ("p", True), "", ("p", False), ""]
        expected = {"": ("inverted", "p"), "loop": ("inverted", "p"), "swap": ("inverted", "p"),
                    "flip": ("ring", 1), "flip swap": ("ring", 1), "flip loop": ("component", ["q", "r"])}
        for kinds, reason in expected.items():
            self.assertEqual(kinds_certificate(Strip(row), kinds.split()), ("blocked", *reason))
        self.assertEqual(kinds_certificate(Strip(row), KINDS)[0], "operations")

    def test_new_lists_each_time(self):
        for row in some_rows()[::3]:
            for kinds in all_kinds():
                first = kinds_certificate(Strip(row), kinds)
                if isinstance(first[-1], list):
                    expected = (*first[:-1], list(first[-1]))
                    first[-1].append("changed")
                    self.assertEqual(kinds_certificate(Strip(row), kinds), expected)

    def test_the_arguments_are_unchanged(self):
        for row in some_rows()[::5]:
            strip, kinds = Strip(row), ["swap", "flip"]
            value = kinds_certificate(strip, kinds)
            kept = (*value[:-1], list(value[-1]) if isinstance(value[-1], list) else value[-1])
            is_kinds_certificate(strip, kinds, value)
            suffices(strip, kinds)
            self.assertEqual((strip.row(), kinds, value), (row, ["swap", "flip"], kept))


class Certificates(Case):
    """Point 93."""

    def test_every_obstacle(self):
        for row in some_rows():
            every = obstacles_in(row, [])
            for kinds in all_kinds():
                allowed = obstacles_in(row, kinds)
                for value in every:
                    self.assertIs(is_kinds_certificate(Strip(row), kinds, value), value in allowed)
                    self.assertEqual(shows(row, kinds, value), value in allowed)

    def test_the_names_of_a_component_in_any_order(self):
        rng = random.Random(93)
        for row in some_rows() + [shaped_row("crossing", 12)]:
            for group in groups_in(row):
                given = rng.sample(group, len(group))
                others = [name for name in names_in(row) if name not in group] + ["yyy"]
                cases = [(given, True), (tuple(given), False), (given[1:], False), (given + given[:1], False),
                         (given + others[:1], False), (given[1:] + others[:1], False), ("".join(given), False),
                         ({name: 1 for name in given}, False), ([], False)]
                for detail, expected in cases:
                    value = ("blocked", "component", detail)
                    self.assertIs(is_kinds_certificate(Strip(row), ["loop", "flip"], value), expected)
                    self.assertIs(is_kinds_certificate(Strip(row), ["swap", "flip"], value), False)

    def test_the_numbers_of_rings(self):
        for row in some_rows():
            total = len(PlainJoin(row, names_in(row)).rows)
            for detail in [*range(-2, total + 2), True, False, None, "1", [1], (1,), 10 ** 20]:
                value = ("blocked", "ring", detail)
                expected = type(detail) is int and 1 <= detail < total
                self.assertIs(is_kinds_certificate(Strip(row), ["swap"], value), expected)
                self.assertIs(is_kinds_certificate(Strip(row), ["loop"], value), False)

    def test_the_inverted_names(self):
        for row in some_rows():
            for detail in names_in(row) + ["yyy", "", None, 0, ["p"]] + [[name] for name in names_in(row)]:
                value = ("blocked", "inverted", detail)
                expected = type(detail) is str and detail in names_in(row) and inverted_in(row, detail)
                self.assertIs(is_kinds_certificate(Strip(row), ("swap", "loop"), value), expected)
                self.assertIs(is_kinds_certificate(Strip(row), ("flip",), value), False)

    def test_operations_of_all_kinds(self):
        rng = random.Random(94)
        for row in some_rows():
            ops = complete_run(rng, Strip(row))[-1][0]
            used = {op[0] for op in ops}
            for kinds in all_kinds():
                for given in (ops, tuple(ops)):
                    self.assertIs(is_kinds_certificate(Strip(row), kinds, ("operations", given)), used <= set(kinds))

    def test_one_change(self):
        rng = random.Random(95)
        for row in some_rows()[::2]:
            for kinds in all_kinds():
                value = kinds_certificate(Strip(row), kinds)
                found = [list(value), value[:1], value + ([],), (value[0].upper(), *value[1:]), value[1:], (value,),
                         ("blocked", *value[1:]), ("operations", value[-1]), (rng.choice(any_values()), *value[1:]),
                         (*value[:-1], rng.choice(any_values()))]
                if value[0] == "operations":
                    found += [("operations", ops) for ops in changed_sequences(rng, value[1], names_in(row))]
                else:
                    found += [("blocked", reason, value[2]) for reason in ("inverted", "ring", "component", "Ring", "")]
                for changed in found:
                    self.assertIs(is_kinds_certificate(Strip(row), kinds, changed), shows(row, kinds, changed),
                                  (row, kinds, changed))

    def test_values_of_every_kind(self):
        for value in any_values():
            self.assertIs(is_kinds_certificate(Strip(CROSSING), ["flip"], value), False)
            for changed in (("operations", value), ("blocked", "component", value), ("blocked", "ring", value),
                            ("blocked", "inverted", value), ("blocked", value, ["p", "q"]), (value, []),
                            (value, "component", ["p", "q"]), ("blocked", "component", [value, "q"])):
                expected = changed == ("blocked", "component", ["p", "q"])
                self.assertIs(is_kinds_certificate(Strip(CROSSING), ["flip"], changed), expected, changed)


class Errors(Case):
    def calls(self):
        return [suffices, kinds_certificate, lambda strip, kinds: is_kinds_certificate(strip, kinds, None)]

    def test_no_strips(self):
        for value in no_strips():
            for call in self.calls():
                self.assert_raises(InvalidStrip, value, call, value, ["loop"])
                self.assert_raises(InvalidStrip, value, call, value, None)
            self.assert_raises(InvalidStrip, value, suffices, kinds=0, strip=value)
            self.assert_raises(InvalidStrip, value, kinds_certificate, kinds=0, strip=value)
            self.assert_raises(InvalidStrip, value, is_kinds_certificate, value=0, kinds=0, strip=value)

    def test_no_kinds(self):
        wrong = [["loop", "loop"], ("flip", "swap", "flip"), ["loop", "flip", "swap", "loop"], "loop", "flip", {},
                 {"loop": 1}, ["Loop"], ["loop", "join"], [["loop"]], [("loop",)], ("loop", 1), [True], [None], [""],
                 ["loop flip"], (("loop", "p"),), ["loops"], ["inverted"], None, 0, "", [{}], ["flip", ["loop"]]]
        for value in any_values() + wrong:
            right = type(value) in (list, tuple) and all(
                type(item) is str and item in KINDS and value.count(item) == 1 for item in value)
            for call in self.calls():
                for row in (CROSSING, ["a"]):
                    if right:
                        call(Strip(row), value)
                    else:
                        self.assert_raises(InvalidKinds, value, call, Strip(row), value)


class Guarantees(Case):
    """Point 94, and what point 9 says of allowed kinds."""

    def test_flips_at_the_name_with_the_greatest_score(self):
        for row in clear_rows():
            strip = Strip(row)
            while any(inverted_in(strip.row(), name) for name in strip.names()):
                now = strip.row()
                inverted = [name for name in names_in(now) if inverted_in(now, name)]
                scores = {name: sum(1 - 2 * inverted_in(now, other) for other in names_in(now)
                                    if cross_in(now, name, other)) for name in inverted}
                for name in inverted:
                    if scores[name] == max(scores.values()):
                        strip, _ = apply_op(Strip(now), ("flip", name))
                        self.assertEqual(groups_in(strip.row()), [])

    def test_flips_and_loops_are_enough_without_components(self):
        for row in clear_rows():
            self.assertIs(suffices(Strip(row), ["flip", "loop"]), True)
            value = kinds_certificate(Strip(row), ["loop", "flip"])
            self.assertTrue(shows(row, ["flip", "loop"], value))

    def test_with_other_names(self):
        rng = random.Random(9)
        for row in some_rows()[::2]:
            new = other_names(rng, names_in(row))
            for kinds in all_kinds():
                other = Strip(renamed_row(row, new))
                self.assertIs(suffices(other, kinds), suffices(Strip(row), kinds))
                value = kinds_certificate(Strip(row), kinds)
                if value[1] == "component":
                    self.assertEqual(kinds_certificate(other, kinds)[2], [new[name] for name in value[2]])

    def test_the_flipped_strip(self):
        for row in some_rows()[::2]:
            for kinds in all_kinds():
                self.assertIs(suffices(Strip(flipped_items(row)), kinds), suffices(Strip(row), kinds))
