"""Points 4, 5, 6 and 61 to 68, and what 7 to 9 say of joining."""

import copy
import itertools
import random

from markersplice.errors import (
    DuplicateName, InvalidNames, InvalidNumber, InvalidStrip, UnknownName, UnknownPart, Unreachable,
)
from markersplice.joining import JoinedStrip, edges, is_result, join_all
from markersplice.operations import apply_all
from markersplice.strips import Ring, Strip
from support import (
    SAMPLE_ROW, Case, PlainJoin, any_values, complete_run, first_kept, flipped_items, looks_like_row,
    mixed_strip_rows, name_list, names_in, no_name_lists, no_strips, other_names, removed_by, renamed_row,
    ring_readings, sample_strip_rows, subsets,
)

P = ("p", True)
Q = ("q", True)
EXAMPLE = ["a", P, "b", Q, "c", P, "d", Q, "e"]


def some_rows():
    return mixed_strip_rows() + sample_strip_rows()[::5]


def joins(seed):
    """Rows of strips, each with several sets of its names."""
    rng = random.Random(seed)
    for row in some_rows():
        for names in subsets(rng, names_in(row), 6):
            yield row, names


def told(joined):
    """All that a joined strip tells."""
    rings = joined.rings()
    kept = None
    try:
        remaining = joined.remaining()
    except Unreachable as caught:
        remaining, kept = None, (caught.ring, caught.name)
    parts = range(len(joined) + 1)
    return [joined.strip(), joined.names(), len(joined), [joined.path(part) for part in parts],
            [joined.part_of(piece) for piece in range(len(joined.strip().pieces()))], joined.row(), rings,
            remaining, kept, {name: joined.edge(name) for name in joined.names()}, str(joined), repr(joined)]


def plain_told(row, names):
    """What a joined strip must tell, except for its texts."""
    plain = PlainJoin(row, names)
    kept = first_kept(plain)
    return [Strip(row), [name for name in names_in(row) if name in names], len(plain.rows) - 1, plain.paths,
            [plain.part_of[piece] for piece in range(len(row[::2]))], plain.rows[0],
            [Ring(reading) for reading in plain.rows[1:]], None if kept else Strip(plain.rows[0]), kept, plain.edges]


class Creating(Case):
    def test_against_the_walk(self):
        for row, names in joins(61):
            expected = plain_told(row, names)
            self.assertEqual(told(JoinedStrip(Strip(row), names))[:-2], expected)
            self.assertEqual(told(JoinedStrip(Strip(row), tuple(names)))[:-2], expected)
            self.assertEqual(told(JoinedStrip(names=names[::-1], strip=Strip(row)))[:-2], expected)

    def test_all_sets_of_small_strips(self):
        for row in [row for row in some_rows() if len(row) <= 17]:
            names = names_in(row)
            for total in range(len(names) + 1):
                for chosen in itertools.combinations(names, total):
                    self.assertEqual(told(JoinedStrip(Strip(row), chosen))[:-2], plain_told(row, chosen))

    def test_every_order_and_orientation_of_two_names(self):
        for order in ("ppqq", "pqpq", "pqqp"):
            for orientations in itertools.product((True, False), repeat=4):
                row = ["a"] + [item for name, upright, piece in zip(order, orientations, "bcde")
                               for item in ((name, upright), piece)]
                for names in ([], ["p"], ["q"], ["q", "p"]):
                    self.assertEqual(told(JoinedStrip(Strip(row), names))[:-2], plain_told(row, names))

    def test_the_kinds_of_values(self):
        for row, names in joins(62):
            joined = JoinedStrip(Strip(row), names)
            self.assertIs(type(joined.strip()), Strip)
            self.assertEqual([type(value) for value in (joined.names(), joined.row(), joined.rings())], [list] * 3)
            self.assertTrue(all(type(ring) is Ring for ring in joined.rings()))
            self.assertTrue(looks_like_row(joined.row()))
            self.assertTrue(all(type(text) is str for text in (str(joined), repr(joined))))
            for part in range(len(joined) + 1):
                path = joined.path(part)
                self.assertIs(type(path), list)
                for item in path:
                    self.assertEqual((type(item), type(item[0]), type(item[1])), (tuple, int, bool))
            for name in names:
                edge = joined.edge(name)
                self.assertEqual([type(edge), *map(type, edge)], [tuple, int, int])

    def test_no_strips(self):
        for value in no_strips():
            self.assert_raises(InvalidStrip, value, JoinedStrip, value, 0)
            self.assert_raises(InvalidStrip, value, JoinedStrip, names=["p", "p"], strip=value)
            self.assert_raises(InvalidStrip, value, is_result, value, 0, 0)
            self.assert_raises(InvalidStrip, value, is_result, value=0, names=0, strip=value)
            for call in (join_all, edges):
                self.assert_raises(InvalidStrip, value, call, value)
                self.assert_raises(InvalidStrip, value, call, strip=value)

    def test_no_names(self):
        strip = Strip(SAMPLE_ROW)
        for value in no_name_lists():
            self.assert_raises(InvalidNames, value, JoinedStrip, strip, value)
            self.assert_raises(InvalidNames, value, JoinedStrip, names=value, strip=strip)
            self.assert_raises(InvalidNames, value, is_result, strip, value, (["a"], []))

    def test_unknown_names(self):
        strip = Strip(SAMPLE_ROW)
        for names, first in ((["s"], "s"), (["a", "t", "s"], "t"), (("d", "aa", "p"), "aa"), (name_list(16), "q"),
                             (["b", "bb", "a"], "bb")):
            self.assert_raises(UnknownName, first, JoinedStrip, strip, names)
            self.assert_raises(UnknownName, first, is_result, strip, names, (["a"], []))
        self.assert_raises(UnknownName, "p", JoinedStrip, Strip(["a"]), ["p"])


class Joining(Case):
    """Point 5, word by word, on small strips."""

    def test_one_direct_name(self):
        for marker in (P, ("p", False)):
            joined = JoinedStrip(Strip(["a", marker, "bC", marker, "d"]), ["p"])
            self.assertEqual((joined.row(), joined.rings()), (["ad"], [Ring(["bC"])]))
            self.assertEqual([joined.path(0), joined.path(1)], [[(0, False), (2, False)], [(1, False)]])
            self.assertEqual([joined.part_of(piece) for piece in range(3)], [0, 1, 0])
        self.assertEqual(JoinedStrip(Strip(["a", P, "b", P, "c"]), ["p"]).edge("p"), (0, 1))
        turned = Strip(["a", ("p", False), "b", ("p", False), "c"])
        self.assertEqual(JoinedStrip(turned, ["p"]).edge("p"), (1, 0))

    def test_one_inverted_name(self):
        for one in (True, False):
            joined = JoinedStrip(Strip(["a", ("p", one), "bC", ("p", not one), "d"]), ["p"])
            self.assertEqual((joined.row(), joined.rings()), (["acBd"], []))
            self.assertEqual(joined.path(0), [(0, False), (1, True), (2, False)])
            self.assertEqual(joined.edge("p"), (0, 0))

    def test_markers_that_stay(self):
        row = ["a", P, "b", Q, "c", ("p", False), "d", ("q", False), "e"]
        joined = JoinedStrip(Strip(row), ["p"])
        self.assertEqual(joined.row(), ["aC", ("q", False), "Bd", ("q", False), "e"])
        joined = JoinedStrip(Strip(["a", P, "b", Q, "c", ("r", False), "", P, "d", ("r", True), "", Q, ""]), ["p"])
        self.assertEqual(joined.row(), ["ad", ("r", True), "", Q, ""])
        self.assertEqual(joined.rings(), [Ring(["b", Q, "c", ("r", False)])])

    def test_the_example(self):
        joined = JoinedStrip(Strip(EXAMPLE), ["p"])
        self.assertEqual([joined.path(0), joined.path(1), joined.row(), str(joined.rings()[0])],
                         [[(0, False), (3, False), (4, False)], [(1, False), (2, False)], ["ad", Q, "e"], "( q+ cb )"])
        with self.assertRaises(Unreachable) as caught:
            joined.remaining()
        self.assertEqual((caught.exception.ring, caught.exception.name), (1, "q"))

    def test_at_no_name(self):
        for row in some_rows():
            joined = JoinedStrip(Strip(row), [])
            self.assertEqual((joined.row(), joined.rings(), joined.names(), len(joined)), (row, [], [], 0))
            self.assertEqual(joined.path(0), [(number, False) for number in range(len(row[::2]))])
            self.assertEqual(joined.remaining(), Strip(row))

    def test_the_side_from_which_the_strip_is_read(self):
        for row, names in joins(63):
            joined, flipped = JoinedStrip(Strip(row), names), JoinedStrip(Strip(row).flipped(), names)
            last = len(row) // 2
            self.assertEqual(flipped.row(), flipped_items(joined.row()))
            self.assert_same_rings(flipped.rings(), joined.rings())
            for part in range(len(joined) + 1):
                pieces = {piece for piece, _ in joined.path(part)}
                other = flipped.part_of(last - min(pieces))
                self.assertEqual({last - piece for piece, _ in flipped.path(other)}, pieces)
            self.assertEqual([(last - piece, turned) for piece, turned in flipped.path(0)][::-1], joined.path(0))

    def test_large_pieces(self):
        row = ["ab" * 4000, P, "c" * 3000, ("p", False), "", Q, "d" * 5000, Q, ""]
        joined = JoinedStrip(Strip(row), ["p", "q"])
        self.assertEqual(joined.row(), ["ab" * 4000 + "C" * 3000])
        self.assertEqual(joined.rings(), [Ring(["d" * 5000])])

    def test_with_other_names(self):
        rng = random.Random(9)
        for row, names in joins(64):
            new = other_names(rng, names_in(row))
            joined = JoinedStrip(Strip(row), names)
            other = JoinedStrip(Strip(renamed_row(row, new)), [new[name] for name in names])
            self.assertEqual(other.row(), renamed_row(joined.row(), new))
            self.assertEqual(told(other)[3:5], told(joined)[3:5])
            self.assert_same_rings(other.rings(), [Ring(renamed_row(ring.row(), new)) for ring in joined.rings()])
            self.assertEqual([other.edge(new[name]) for name in names], [joined.edge(name) for name in names])


class Parts(Case):
    def test_paths(self):
        for row, names in joins(65):
            joined = JoinedStrip(Strip(row), names)
            paths = [joined.path(part) for part in range(len(joined) + 1)]
            self.assertEqual(sorted(piece for path in paths for piece, _ in path), list(range(len(row[::2]))))
            self.assertEqual(paths[0][0], (0, False))
            self.assertEqual(paths[0][-1], (len(row) // 2, False))
            for path in paths[1:]:
                self.assertEqual(path[0], (min(piece for piece, _ in path), False))
            starts = [path[0][0] for path in paths]
            self.assertEqual(starts, sorted(starts))
            for part, path in enumerate(paths):
                self.assertEqual(joined.path(part=part), path)
                for piece, _ in path:
                    self.assertEqual(joined.part_of(piece), part)
                    self.assertEqual(joined.part_of(piece=piece), part)
                    self.assertIs(type(joined.part_of(piece)), int)

    def test_unknown_parts(self):
        for names in ([], ["p"], ["p", "q"]):
            joined = JoinedStrip(Strip(["a", P, "b", P, "c", Q, "d", Q, "e"]), names)
            for value in any_values() + [len(joined) + 1, -1, -len(joined) - 1, [0], (0,), "0", {0: 0}]:
                if type(value) is not int or not 0 <= value <= len(joined):
                    self.assert_raises(UnknownPart, value, joined.path, value)
                    self.assert_raises(UnknownPart, value, joined.path, part=value)

    def test_invalid_numbers_of_pieces(self):
        for row in (["a"], EXAMPLE):
            joined = JoinedStrip(Strip(row), names_in(row)[:1])
            total = len(row[::2])
            for value in any_values() + [total, total + 1, -1, -total, [0], (0,), "0", {0: 0}]:
                if type(value) is not int or not 0 <= value < total:
                    self.assert_raises(InvalidNumber, value, joined.part_of, value)
                    self.assert_raises(InvalidNumber, value, joined.part_of, piece=value)

    def test_unreachable(self):
        # Both rings keep markers; the text of the first begins with the name that sorts first.
        row = ["", P, "", ("z", True), "", ("b", False), "", P, "", Q, "", ("z", False), "", ("b", True), "", Q, ""]
        joined = JoinedStrip(Strip(row), ["q", "p"])
        with self.assertRaises(Unreachable) as caught:
            joined.remaining()
        self.assertIs(type(caught.exception), Unreachable)
        self.assertEqual((caught.exception.ring, caught.exception.name), (1, "b"))
        row = ["", P, "", P, "", Q, "", ("a", True), "", ("a", True), "", Q, ""]
        with self.assertRaises(Unreachable) as caught:
            JoinedStrip(Strip(row), ["p", "q"]).remaining()
        self.assertEqual((caught.exception.ring, caught.exception.name), (2, "a"))
        self.assertEqual([len(ring) for ring in JoinedStrip(Strip(row), ["q", "p"]).rings()], [0, 2])


class Edges(Case):
    def test_the_example(self):
        strip = Strip(["", P, "a", Q, "b", Q, "c", P, ""])
        self.assertEqual(edges(strip), {"p": (0, 1), "q": (1, 2)})

    def test_the_joints_of_all_names(self):
        for row in some_rows():
            found = edges(Strip(row))
            self.assertIs(type(found), dict)
            self.assertEqual(list(found), names_in(row))
            self.assertEqual(found, PlainJoin(row, names_in(row)).edges)
            self.assertEqual(edges(strip=Strip(row)), found)
            found.clear()
            self.assertEqual(list(edges(Strip(row))), names_in(row))

    def test_names_that_are_not_joined(self):
        joined = JoinedStrip(Strip(EXAMPLE), ["p"])
        for value in any_values() + ["q", "z", ["p"], ("p",), {"p": 1}]:
            if value != "p":
                self.assert_raises(UnknownName, value, joined.edge, value)
                self.assert_raises(UnknownName, value, joined.edge, name=value)
        self.assertEqual(joined.edge(name="p"), (0, 1))

    def test_the_final_result(self):
        for row in some_rows():
            final = join_all(Strip(row))
            self.assertIs(type(final), JoinedStrip)
            self.assertEqual(final, JoinedStrip(Strip(row), names_in(row)))
            self.assertEqual(told(join_all(strip=Strip(row))), told(final))
            self.assertEqual(len(final.row()), 1)
            self.assertEqual([len(ring.row()) for ring in final.rings()], [1] * len(final))
            self.assertEqual(final.remaining(), Strip(final.row()))


class MoreAndFewer(Case):
    def test_one_name_more(self):
        for row, names in joins(66):
            joined = JoinedStrip(Strip(row), names)
            for name in names_in(row):
                if name in names:
                    self.assert_raises(DuplicateName, name, joined.with_name, name)
                    continue
                more = joined.with_name(name)
                self.assertIs(type(more), JoinedStrip)
                self.assertEqual(told(more), told(JoinedStrip(Strip(row), names + [name])))
                self.assertEqual(joined.with_name(name=name), more)
                low, high = Strip(row).places(name)
                apart = joined.part_of(low) != joined.part_of(high)
                self.assertIn(len(more) - len(joined), (-1, 0, 1))
                self.assertIs(len(more) - len(joined) == -1, apart)
            self.assertEqual(joined.names(), [name for name in names_in(row) if name in names])

    def test_one_name_fewer(self):
        for row, names in joins(67):
            joined = JoinedStrip(Strip(row), names)
            for name in names_in(row):
                if name not in names:
                    self.assert_raises(UnknownName, name, joined.without_name, name)
                    continue
                fewer = joined.without_name(name)
                self.assertIs(type(fewer), JoinedStrip)
                rest = [other for other in names if other != name]
                self.assertEqual(told(fewer), told(JoinedStrip(Strip(row), rest)))
                self.assertEqual(joined.without_name(name=name), fewer)
                self.assertEqual(fewer.with_name(name), joined)
                one, other = joined.edge(name)
                if one != other:
                    self.assertEqual(len(joined) - len(fewer), 1)

    def test_other_values(self):
        joined = JoinedStrip(Strip(EXAMPLE), ["p"])
        for value in any_values() + ["z", ["q"], ("q",), {"q": 1}]:
            if value not in ("p", "q"):
                for call in (joined.with_name, joined.without_name):
                    self.assert_raises(UnknownName, value, call, value)
                    self.assert_raises(UnknownName, value, call, name=value)
        self.assert_raises(UnknownName, "q", joined.without_name, "q")
        self.assert_raises(DuplicateName, "p", joined.with_name, "p")


class Equality(Case):
    def test_the_same_names_in_any_order(self):
        rng = random.Random(68)
        for row, names in joins(68):
            joined = JoinedStrip(Strip(row), names)
            other = JoinedStrip(Strip(tuple(row)), rng.sample(names, len(names)))
            self.assert_equality(joined, other, True)
            self.assertEqual(told(joined), told(other))
            self.assert_equality(joined, JoinedStrip(Strip(row).flipped().flipped(), tuple(names)), True)

    def test_one_difference(self):
        for row, names in joins(69):
            joined = JoinedStrip(Strip(row), names)
            for name in names_in(row):
                other = joined.without_name(name) if name in names else joined.with_name(name)
                self.assert_equality(joined, other, False)
            changed = [row[0] + "x"] + row[1:]
            self.assert_equality(joined, JoinedStrip(Strip(changed), names), False)
            self.assert_equality(joined, JoinedStrip(Strip(row).flipped(), names), row == flipped_items(row))

    def test_values_of_other_kinds(self):
        for row, names in ((["a"], []), (EXAMPLE, ["p"])):
            joined = JoinedStrip(Strip(row), names)
            for value in any_values() + [Strip(row), names, joined.row(), (joined.row(), joined.rings())]:
                if type(value) is JoinedStrip:
                    self.assert_equality(joined, value, value.strip() == Strip(row) and value.names() == names)
                else:
                    self.assert_equality(joined, value, False)


class Copies(Case):
    def test_the_arguments(self):
        for row, names in itertools.islice(joins(70), 100):
            names = list(names)
            kept = copy.deepcopy(names)
            joined = JoinedStrip(Strip(row), names)
            before = told(joined)
            self.assertEqual(names, kept)
            names.append("changed")
            self.assertEqual(told(joined), before)
            value = (joined.row(), joined.rings())
            is_result(Strip(row), kept, value)
            self.assertEqual(value, (joined.row(), joined.rings()))

    def test_the_results(self):
        joined = JoinedStrip(Strip(["a", P, "b", Q, "c", Q, "d", P, "e"]), ["p", "q"])
        before = told(joined)
        for call in (joined.names, joined.row, joined.rings, lambda: joined.path(0), lambda: joined.path(1),
                     lambda: joined.strip().row(), lambda: joined.rings()[0].row()):
            first, second = call(), call()
            self.assertEqual(first, second)
            self.assertIsNot(first, second)
            first.append("changed")
            first[0] = "changed"
            self.assertEqual(told(joined), before)

    def test_an_error_changes_nothing(self):
        joined = JoinedStrip(Strip(EXAMPLE), ["p"])
        before = told(joined)
        for call, value in ((joined.path, 9), (joined.part_of, 9), (joined.edge, "q"), (joined.with_name, "p"),
                            (joined.without_name, "q")):
            with self.assertRaises((ValueError, LookupError)):
                call(value)
        self.assertEqual(told(joined), before)

    def test_the_kept_value_is_the_very_object(self):
        names = ["p", "p"]
        caught = self.assert_raises(InvalidNames, names, JoinedStrip, Strip(EXAMPLE), names)
        names.append("q")
        self.assertEqual(caught.value, ["p", "p", "q"])


class Results(Case):
    def test_any_order_and_any_readings(self):
        rng = random.Random(71)
        for row, names in joins(71):
            plain = PlainJoin(row, names)
            rings = [Ring(rng.choice(ring_readings(reading))) for reading in plain.rows[1:]]
            rng.shuffle(rings)
            for value in ((plain.rows[0], rings), (tuple(plain.rows[0]), tuple(rings)), (plain.rows[0], tuple(rings))):
                self.assertIs(is_result(Strip(row), names, value), True)
                self.assertIs(is_result(value=value, names=tuple(names), strip=Strip(row)), True)

    def test_one_thing_changed(self):
        for row, names in joins(72):
            joined = JoinedStrip(Strip(row), names)
            kept, rings = joined.row(), joined.rings()
            wrong = [
                (kept[:-1] + [kept[-1] + "x"], rings), ([kept[0] + "x"] + kept[1:], rings),
                (kept, rings + [Ring(["xyz"])]), (kept + [("p", True), ""], rings), (kept[:-1], rings), ([], rings),
                (kept, rings, []), (kept,),
                [kept, rings], (Strip(["a"]), rings), (kept, None), (kept, [ring.row() for ring in rings] + [0]),
            ]
            if flipped_items(kept) != kept:
                wrong.append((flipped_items(kept), rings))
            if rings:
                wrong += [(kept, rings[1:]), (kept, rings + rings[:1]), (kept, [rings[0].row()] + rings[1:]),
                          (kept, [str(rings[0])] + rings[1:]), (kept, rings[:-1] + [Ring(["xyz", ("zzz", True)])]),
                          (kept, dict(enumerate(rings)))]
            for index in range(1, len(kept), 2):
                name, upright = kept[index]
                for item in ((name, not upright), (name, int(upright)), [name, upright], (name, upright, True), name):
                    wrong.append((kept[:index] + [item] + kept[index + 1:], rings))
            for value in wrong:
                self.assertIs(is_result(Strip(row), names, value), False, value)

    def test_equal_rings_count_as_often_as_they_occur(self):
        row = ["", P, "ab", P, "", Q, "BA", Q, "", ("r", True), "c", ("r", True), ""]
        one, other = Ring(["ab"]), Ring(["c"])
        cases = (([one, one, other], True), ([one, other, one], True), ([one, other, other], False),
                 ([one, other], False), ([one, one, one, other], False), ([one, one], False))
        for rings, expected in cases:
            self.assertIs(is_result(Strip(row), ["p", "q", "r"], ([""], rings)), expected)

    def test_values_of_every_kind(self):
        for value in any_values():
            self.assertIs(is_result(Strip(EXAMPLE), ["p"], value), False)
            for changed in ((value, [Ring(["cb", Q])]), (["ad", Q, "e"], value), (["ad", Q, "e"], [value]),
                            (["ad", value, "e"], [Ring(["cb", Q])]), (value, value)):
                self.assertIs(is_result(Strip(EXAMPLE), ["p"], changed), False)
        self.assertIs(is_result(Strip(EXAMPLE), ["p"], (["ad", Q, "e"], [Ring(["cb", Q])])), True)


class Guarantees(Case):
    """Point 68, and what point 9 says of the result of operations."""

    def test_after_any_operations(self):
        rng = random.Random(73)
        for row in some_rows():
            for _ in range(3):
                for ops, strip, rings in complete_run(rng, Strip(row)):
                    names = removed_by(ops)
                    joined = JoinedStrip(Strip(row), names)
                    self.assertEqual(joined.remaining(), strip)
                    self.assert_same_rings(joined.rings(), rings)
                    self.assertIs(is_result(Strip(row), names, (strip.row(), rings)), True)

    def test_the_sets_that_operations_remove(self):
        for row in [row for row in some_rows() if len(row) <= 17]:
            strip = Strip(row)
            reached = set()
            states = [[]]
            for ops in states:
                left, _ = apply_all(strip, ops)
                key = frozenset(removed_by(ops))
                if key not in reached:
                    reached.add(key)
                    states.extend(ops + [op] for op in all_applicable(left))
            names = names_in(row)
            for total in range(len(names) + 1):
                for chosen in itertools.combinations(names, total):
                    self.assertIs(first_kept(PlainJoin(row, chosen)) is None, frozenset(chosen) in reached)
                    try:
                        self.assertIs(type(JoinedStrip(strip, chosen).remaining()), Strip)
                        self.assertIn(frozenset(chosen), reached)
                    except Unreachable:
                        self.assertNotIn(frozenset(chosen), reached)


def all_applicable(strip):
    """All operations that can be applied, found by trying."""
    names = strip.names()
    ops = [(kind, name) for name in names for kind in ("loop", "flip")]
    ops += [("swap", *pair) for pair in itertools.permutations(names, 2)]
    found = []
    for op in ops:
        try:
            apply_all(strip, [op])
            found.append(op)
        except LookupError:
            pass
    return found
