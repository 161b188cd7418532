"""Points 81 to 88, and what 7 to 9 say of loop sets and rings."""

import itertools
import random

from markersplice.errors import InvalidNames, InvalidStrip, UnknownName, UnknownPart
from markersplice.joining import edges, join_all
from markersplice.strips import Strip
from markersplice.texts import parse_row
from markersplice.trees import (
    can_loop, can_make_ring, is_loop_certificate, is_ring_certificate, loop_certificate, loop_set_count, loop_sets,
    must_loop, ring_certificate,
)
from support import (
    SAMPLE_ROW, SHAPES, Case, PlainJoin, any_values, changed_sequences, complete_sequences, every_subset,
    flipped_items, left_by, looks_like_names, mixed_strip_rows, name_list, names_in, no_name_lists, no_strips,
    other_names, renamed_row, sample_strip_rows, shaped_row, small_rows, subsets,
)

P = ("p", True)
Q = ("q", True)
R = ("r", True)
THREE = ["", P, "", Q, "", R, "", P, "", Q, "", R, ""]


class Graph:
    """The parts of the final result of a row, and the names as edges between them, by a plain walk."""

    def __init__(self, row):
        self.row = row
        self.names = names_in(row)
        plain = PlainJoin(row, self.names)
        self.total = len(plain.rows)
        self.ends = plain.edges

    def groups(self, names, without=None):
        """The sets of parts that the edges of these names connect, without the edges at one part."""
        groups = [{part} for part in range(self.total)]
        for name in names:
            if without in self.ends[name]:
                continue
            one, other = [next(group for group in groups if part in group) for part in self.ends[name]]
            if one is not other:
                groups.remove(other)
                one |= other
        return groups

    def is_tree(self, names):
        return len(names) == self.total - 1 and len(self.groups(names)) == 1

    def trees(self):
        return [chosen for chosen in every_subset(self.names) if self.is_tree(chosen)]

    def leads_over(self, names, name, ring):
        """Whether names are a tree in which the way from a ring to part 0 begins with this name."""
        if not looks_like_names(names) or not set(names) <= set(self.names) or not self.is_tree(names):
            return False
        if name not in names or ring not in self.ends[name]:
            return False
        rest = self.groups([other for other in names if other != name])
        return not any({ring, 0} <= group for group in rest)

    def is_cycle(self, value, given):
        """Whether a value is a list as point 84 words it for a cycle."""
        if type(value) is not list or not looks_like_names(value) or not value or not set(value) <= set(given):
            return False
        for parts in itertools.permutations(range(self.total), len(value)):
            if all({parts[k], parts[(k + 1) % len(parts)]} == set(self.ends[name]) for k, name in enumerate(value)):
                return True
        return False

    def is_cut_off(self, value, given):
        """Whether a value is a list as point 85 words it for parts that are not reached."""
        if not self.are_parts(value) or not value or 0 in value:
            return False
        return not any((one in value) != (other in value) for one, other in [self.ends[name] for name in given])

    def are_parts(self, value):
        """Whether a value is a list of distinct numbers of parts."""
        if type(value) is not list or not all(type(part) is int and 0 <= part < self.total for part in value):
            return False
        return len(set(value)) == len(value)

    def shows_loops(self, given, value):
        """Whether a value is a certificate of point 85."""
        if type(value) is not tuple or len(value) not in (2, 3):
            return False
        if len(value) == 2:
            left = left_by(Strip(self.row), value[1])
            if value[0] != "operations" or left is None or len(left) > 0:
                return False
            return {op[1] for op in value[1] if op[0] == "loop"} == set(given)
        if value[0] != "blocked":
            return False
        if value[1] == "cycle":
            return self.is_cycle(value[2], given)
        return value[1] == "unreached" and self.is_cut_off(value[2], given)

    def shows_ring(self, name, ring, value):
        """Whether a value is a certificate of point 88."""
        if type(value) is not tuple or len(value) not in (2, 3):
            return False
        if len(value) == 2:
            return value[0] == "set" and self.leads_over(value[1], name, ring)
        if value[0] != "blocked":
            return False
        one, other = self.ends[name]
        if value[1] == "within":
            return type(value[2]) is int and value[2] == one == other
        if not self.are_parts(value[2]) or one == other:
            return False
        if value[1] == "beside":
            return ring not in (one, other) and set(value[2]) == {one, other}
        if value[1] != "cut" or ring not in (one, other) or {0, ring} & set(value[2]):
            return False
        listed = set(value[2])
        far = other if one == ring else one
        return far in listed and not any(
            set(pair) & listed and set(pair) - listed - {ring} for pair in self.ends.values())

    def ring_reason(self, name, ring):
        """The first reason of point 87 that applies, with its detail, or None."""
        one, other = self.ends[name]
        if one == other:
            return ("blocked", "within", one)
        if ring not in (one, other):
            return ("blocked", "beside", sorted([one, other]))
        far = other if one == ring else one
        reached = next(group for group in self.groups(self.names, ring) if far in group)
        return None if 0 in reached else ("blocked", "cut", sorted(reached))


def some_rows():
    return small_rows() + mixed_strip_rows()[::2] + sample_strip_rows()[::6]


def ring_rows():
    """Rows whose final results have several rings, some of them behind others."""
    rng = random.Random(87)
    rows = []
    for total in (2, 3, 4, 5, 6, 8, 12):
        for _ in range(8):
            names = name_list(total)
            order = []
            for name in names:
                at, length = rng.randrange(len(order) + 1), rng.randrange(3)
                order[at:at] = [name]
                order.insert(min(len(order), at + 1 + length), name)
            row = [""]
            for name in order:
                row.extend([(name, rng.randrange(9) > 0 or name not in order[:len(row) // 2]), ""])
            rows.append(row)
    # In the last one, the ring 1 cuts off the parts 3 and, behind it, 2.
    return rows + [parse_row("_ q+ _ zz+ _ b+ _ a- _ zz- _ b- _ a+ _ q+ _")]


def looped_by(ops):
    return {op[1] for op in ops if op[0] == "loop"}


def changed_lists(rng, items, others):
    """Lists and tuples that differ from the given list in one thing."""
    found = [list(items[::-1]), tuple(items), items + items[:1], items[1:], [], rng.sample(items, len(items))]
    for other in rng.sample(others, min(3, len(others))):
        at = rng.randrange(len(items) + 1)
        found += [items[:at] + [other] + items[at:], items[:at] + [other] + items[at + 1:]]
    return found


class LoopSets(Case):
    """Points 81 to 83 and 86."""

    def test_against_all_complete_sequences(self):
        for row in small_rows():
            found = {frozenset(looped_by(ops)) for ops in complete_sequences(Strip(row))}
            sets = loop_sets(Strip(row))
            self.assertEqual({frozenset(names) for names in sets}, found)
            self.assertEqual(len(sets), len(found))
            for name in names_in(row):
                self.assertIs(can_loop(Strip(row), name), any(name in names for names in found))
                self.assertIs(must_loop(Strip(row), name), all(name in names for names in found))

    def test_against_all_selections_of_names(self):
        for row in some_rows() + ring_rows():
            graph = Graph(row)
            # All sets have the same size, so that the order of the selections is the one of the positions.
            expected = graph.trees()
            sets = loop_sets(Strip(row))
            self.assertEqual(sets, expected)
            positions = [[names_in(row).index(name) for name in names] for names in sets]
            self.assertEqual(positions, sorted(positions))
            self.assertEqual([type(sets), *map(type, sets)], [list] * (len(sets) + 1))
            self.assertEqual(loop_sets(strip=Strip(row)), expected)
            count = loop_set_count(Strip(row))
            self.assertEqual((count, type(count)), (len(expected), int))
            self.assertEqual(loop_set_count(strip=Strip(row)), count)

    def test_asked_first_about_a_new_strip(self):
        for row in some_rows() + ring_rows():
            trees = Graph(row).trees()
            for name in names_in(row):
                self.assertIs(must_loop(name=name, strip=Strip(row)), all(name in names for names in trees))
                self.assertIs(can_loop(name=name, strip=Strip(row)), any(name in names for names in trees))

    def test_the_example(self):
        strip = Strip(THREE)
        self.assertEqual([loop_sets(strip), must_loop(strip, "p"), loop_certificate(strip, [])],
                         [[["p"], ["q"], ["r"]], False, ("blocked", "unreached", [1])])
        self.assertEqual(loop_set_count(strip), 3)

    def test_without_rings(self):
        for row in (["a"], ["a", P, "b", Q, "c", P, "d", Q, "e"], ["a", P, "b", ("p", False), "c"]):
            self.assertEqual((loop_sets(Strip(row)), loop_set_count(Strip(row))), ([[]], 1))
            for name in names_in(row):
                self.assertEqual([can_loop(Strip(row), name), must_loop(Strip(row), name)], [False, False])

    def test_twelve_names(self):
        for shape in SHAPES:
            strip = Strip(shaped_row(shape, 12))
            trees = Graph(strip.row()).trees()
            self.assertEqual(loop_sets(strip), trees)
            self.assertEqual(loop_set_count(strip), len(trees))
        names = name_list(12)
        self.assertEqual(loop_sets(Strip(shaped_row("apart", 12))), [names])
        # Two names side by side within each other give many trees.
        row = [""]
        for one, other in zip(names[::2], names[1::2]):
            for marker in ((one, True), (other, True), (other, False), (one, False)):
                row.extend([marker, ""])
        self.assertEqual(loop_sets(Strip(row)), Graph(row).trees())

    def test_new_lists_each_time(self):
        strip = Strip(THREE)
        first = loop_sets(strip)
        first[0].append("changed")
        first.pop()
        self.assertEqual(loop_sets(strip), [["p"], ["q"], ["r"]])

    def test_errors(self):
        for value in no_strips():
            for call in (loop_sets, loop_set_count):
                self.assert_raises(InvalidStrip, value, call, value)
                self.assert_raises(InvalidStrip, value, call, strip=value)
            for call in (can_loop, must_loop):
                self.assert_raises(InvalidStrip, value, call, value, "p")
                self.assert_raises(InvalidStrip, value, call, name=["p"], strip=value)
        for value in any_values() + ["z", ["p"], ("p",), {"p": 1}]:
            if value not in ("p", "q", "r"):
                for call in (can_loop, must_loop):
                    self.assert_raises(UnknownName, value, call, Strip(THREE), value)
                    self.assert_raises(UnknownName, value, call, name=value, strip=Strip(THREE))
        self.assert_raises(UnknownName, "p", can_loop, Strip(["a"]), "p")


class LoopCertificates(Case):
    """Points 84 and 85."""

    def check_certificate(self, graph, names, value):
        """Ask for a certificate of point 84 itself."""
        self.assertTrue(graph.shows_loops(names, value), (graph.row, names, value))
        self.assertIs(type(value), tuple)
        if graph.is_tree(names):
            self.assertEqual((value[0], type(value[1])), ("operations", list))
            return
        has_cycle = len(graph.groups(names)) > graph.total - len(names)
        self.assertEqual(value[:2], ("blocked", "cycle" if has_cycle else "unreached"))
        if not has_cycle:
            reached = next(group for group in graph.groups(names) if 0 in group)
            self.assertEqual(value[2], [part for part in range(graph.total) if part not in reached])

    def test_every_set_of_small_strips(self):
        rng = random.Random(84)
        for row in small_rows() + ring_rows():
            graph = Graph(row)
            sets = every_subset(names_in(row))
            for names in sets if len(sets) <= 64 else rng.sample(sets, 24) + graph.trees()[:4]:
                given = rng.sample(names, len(names))
                value = loop_certificate(Strip(row), given)
                self.check_certificate(graph, names, value)
                self.assertEqual(loop_certificate(names=given, strip=Strip(row)), value)
                self.check_certificate(graph, names, loop_certificate(Strip(row), tuple(names)))
                self.assertIs(is_loop_certificate(Strip(row), names, value), True)
                self.assertIs(is_loop_certificate(value=value, names=tuple(given), strip=Strip(row)), True)

    def test_sets_with_one_name_more_or_fewer(self):
        rng = random.Random(85)
        for row in some_rows() + ring_rows():
            graph = Graph(row)
            for tree in graph.trees()[:5]:
                others = [name for name in names_in(row) if name not in tree]
                for names in [tree] + changed_lists(rng, tree, others):
                    if looks_like_names(names):
                        value = loop_certificate(Strip(row), names)
                        self.check_certificate(graph, list(names), value)
                        self.assertIs(is_loop_certificate(Strip(row), names, value), True)

    def test_every_complete_sequence(self):
        for row in [row for row in small_rows() if len(row) <= 13]:
            for ops in complete_sequences(Strip(row)):
                for names in every_subset(names_in(row)):
                    expected = looped_by(ops) == set(names)
                    for sequence in (ops, tuple(ops)):
                        value = ("operations", sequence)
                        self.assertIs(is_loop_certificate(Strip(row), names, value), expected)

    def test_one_change(self):
        rng = random.Random(86)
        for row in some_rows() + ring_rows():
            graph = Graph(row)
            for names in subsets(rng, names_in(row), 4) + graph.trees()[:2]:
                value = loop_certificate(Strip(row), names)
                for changed in self.changed(rng, row, graph, value):
                    expected = graph.shows_loops(names, changed)
                    self.assertIs(is_loop_certificate(Strip(row), names, changed), expected, (row, names, changed))

    def changed(self, rng, row, graph, value):
        found = [list(value), value[:1], value + ([],), (value[0].upper(), *value[1:]), value[1:], (value,),
                 ("blocked", *value[1:]), ("operations", value[-1]), (rng.choice(any_values()), *value[1:]),
                 (*value[:-1], rng.choice(any_values()))]
        if value[0] == "operations":
            found += [("operations", ops) for ops in changed_sequences(rng, value[1], names_in(row))]
            return found + [("blocked", reason, []) for reason in ("cycle", "unreached")]
        others = names_in(row) if value[1] == "cycle" else list(range(-1, graph.total + 2)) + [True, False, 10 ** 20]
        details = changed_lists(rng, value[2], others)
        details += [["p"], [True], ["z"], [1], [[1]], {}, {1: 1}, "p", ("p",)]
        details += [list(range(start, graph.total)) for start in range(3)]
        return found + [("blocked", reason, detail) for detail in details for reason in ("cycle", "unreached", "cut")]

    def test_every_list_of_names_as_a_cycle(self):
        for row in [row for row in ring_rows() + small_rows() if len(row) <= 17]:
            graph = Graph(row)
            for total in range(len(names_in(row)) + 1):
                for detail in itertools.permutations(names_in(row), total):
                    for names in (names_in(row), list(detail)[:2], list(detail)[::-1]):
                        value = ("blocked", "cycle", list(detail))
                        self.assertIs(is_loop_certificate(Strip(row), names, value),
                                      graph.shows_loops(names, value), (row, names, value))

    def test_cycles_of_every_length(self):
        lengths = set()
        rng = random.Random(88)
        for row in ring_rows() + mixed_strip_rows() + [self.long_cycle()]:
            for names in subsets(rng, names_in(row), 8):
                value = loop_certificate(Strip(row), names)
                if value[1] == "cycle":
                    lengths.add(len(value[2]))
                    turned = value[2][1:] + value[2][:1]
                    for detail in (turned, turned[::-1]):
                        self.assertIs(is_loop_certificate(Strip(row), names, ("blocked", "cycle", detail)), True)
        self.assertLessEqual({1, 2, 3}, lengths)
        graph = Graph(self.long_cycle())
        self.assertEqual(len(loop_certificate(Strip(graph.row), graph.names)[2]), 3)

    def long_cycle(self):
        """A row whose three names connect three parts to a cycle."""
        for order in itertools.permutations("ppqqrr"):
            for upright in itertools.product((True, False), repeat=5):
                row = [""]
                for marker in zip(order, (True, *upright)):
                    row.extend([marker, ""])
                ends = [set(pair) for pair in Graph(row).ends.values()]
                if sorted(map(sorted, ends)) == [[0, 1], [0, 2], [1, 2]]:
                    return row
        return self.fail("there is no such row")

    def test_both_reasons_at_once(self):
        both = 0
        for row in ring_rows() + mixed_strip_rows():
            graph = Graph(row)
            for names in every_subset(names_in(row))[:80]:
                value = loop_certificate(Strip(row), names)
                apart = [part for group in graph.groups(names) for part in group if 0 not in group]
                if value[1] == "cycle" and apart:
                    both += 1
                    value = ("blocked", "unreached", apart)
                    self.assertIs(is_loop_certificate(Strip(row), names, value), True)
        self.assertGreater(both, 20)

    def test_some_of_the_unreached_parts(self):
        strip = Strip(shaped_row("apart", 3))
        names = strip.names()
        for detail in ([1], [2], [3], [3, 1], [1, 2, 3], [2, 3, 1]):
            self.assertIs(is_loop_certificate(strip, [], ("blocked", "unreached", detail)), True)
            self.assertIs(is_loop_certificate(strip, [], ("blocked", "unreached", tuple(detail))), False)
            self.assertIs(is_loop_certificate(strip, names[:1], ("blocked", "unreached", detail)), 1 not in detail)
        for detail in ([], [0], [0, 1], [1, 1], [4], [-1], [True], [2, True], [False], ["1"], [None], [[1]]):
            self.assertIs(is_loop_certificate(strip, [], ("blocked", "unreached", detail)), False, detail)
        self.assertEqual(loop_certificate(strip, []), ("blocked", "unreached", [1, 2, 3]))

    def test_values_of_every_kind(self):
        for value in any_values():
            self.assertIs(is_loop_certificate(Strip(THREE), ["p"], value), False)
            for changed in (("operations", value), ("blocked", "cycle", value), ("blocked", "unreached", value),
                            ("blocked", value, []), (value, []), (value, "cycle", ["p"]), ("blocked", "cycle", [value]),
                            ("blocked", "unreached", [value])):
                expected = Graph(THREE).shows_loops(["p"], changed)
                self.assertIs(is_loop_certificate(Strip(THREE), ["p"], changed), expected, changed)

    def test_new_lists_each_time(self):
        strip = Strip(THREE)
        for names in ([], ["p"], ["p", "q"], ["q", "r", "p"]):
            first = loop_certificate(strip, names)
            expected = (*first[:-1], list(first[-1]))
            first[-1].append("changed")
            self.assertEqual(loop_certificate(strip, names), expected)

    def test_the_order_of_the_errors(self):
        calls = [loop_certificate, lambda strip, names: is_loop_certificate(strip, names, None)]
        for call in calls:
            for value in no_strips():
                self.assert_raises(InvalidStrip, value, call, value, ["p", "p"])
            for value in no_name_lists():
                self.assert_raises(InvalidNames, value, call, Strip(SAMPLE_ROW), value)
            self.assert_raises(UnknownName, "t", call, Strip(SAMPLE_ROW), ["a", "t", "s"])
            self.assert_raises(UnknownName, "q", call, Strip(SAMPLE_ROW), tuple(name_list(16)))


class Rings(Case):
    """Points 87 and 88."""

    def test_every_name_with_every_ring(self):
        for row in some_rows() + ring_rows():
            graph = Graph(row)
            for name, ring in itertools.product(graph.names, range(1, graph.total)):
                reason = graph.ring_reason(name, ring)
                value = ring_certificate(Strip(row), name, ring)
                self.assertIs(can_make_ring(Strip(row), name, ring), reason is None)
                self.assertIs(can_make_ring(ring=ring, name=name, strip=Strip(row)), reason is None)
                self.assertEqual(ring_certificate(ring=ring, name=name, strip=Strip(row)), value)
                self.assertIs(is_ring_certificate(Strip(row), name, ring, value), True)
                self.assertIs(is_ring_certificate(value=value, ring=ring, name=name, strip=Strip(row)), True)
                if reason is not None:
                    self.assertEqual(value, reason)
                    self.assertEqual([type(value), type(value[2])],
                                     [tuple, int if reason[1] == "within" else list])
                    continue
                self.assertEqual((type(value), value[0], type(value[1])), (tuple, "set", list))
                self.assertTrue(graph.leads_over(value[1], name, ring))
                self.assertEqual(value[1], [other for other in graph.names if other in value[1]])

    def test_against_all_complete_sequences(self):
        for row in [row for row in small_rows() + ring_rows() if len(row) <= 17]:
            graph = Graph(row)
            made = set()
            for ops in complete_sequences(Strip(row)):
                before = []
                for op in ops:
                    if op[0] == "loop":
                        made.add((op[1], self.ring_made(row, before, op[1])))
                    before.extend(op[1:])
            for name, ring in itertools.product(graph.names, range(1, graph.total)):
                self.assertIs(can_make_ring(Strip(row), name, ring), (name, ring) in made)

    def ring_made(self, row, before, name):
        """The number, in the final result, of the ring that a loop at a name cuts out."""
        old = {frozenset(piece for piece, _ in path) for path in PlainJoin(row, before).paths[1:]}
        new = {frozenset(piece for piece, _ in path) for path in PlainJoin(row, [*before, name]).paths[1:]}
        cut, = new - old
        final = [frozenset(piece for piece, _ in path) for path in PlainJoin(row, names_in(row)).paths]
        return final.index(cut)

    def test_equal_rings_are_told_apart(self):
        row = ["", P, "a", P, "", Q, "a", Q, ""]
        strip = Strip(row)
        self.assertEqual(join_all(strip).rings()[0], join_all(strip).rings()[1])
        found = [can_make_ring(strip, name, ring) for name in ("p", "q") for ring in (1, 2)]
        self.assertEqual(found, [True, False, False, True])
        self.assertEqual(ring_certificate(strip, "p", 2), ("blocked", "beside", [0, 1]))
        self.assertEqual(ring_certificate(strip, "q", 1), ("blocked", "beside", [0, 2]))

    def test_a_case_with_every_reason(self):
        # r is nested in q, and q in p, so that the rings hang behind one another; s is a swap with t.
        row = ["", P, "", Q, "", R, "", R, "", Q, "", P, "", ("s", True), "", ("t", True), "", ("s", True), "",
               ("t", True), ""]
        strip = Strip(row)
        self.assertEqual(edges(strip), {"p": (0, 1), "q": (1, 2), "r": (2, 3), "s": (0, 0), "t": (0, 0)})
        self.assertEqual(ring_certificate(strip, "s", 2), ("blocked", "within", 0))
        self.assertEqual(ring_certificate(strip, "p", 2), ("blocked", "beside", [0, 1]))
        self.assertEqual(ring_certificate(strip, "r", 2), ("blocked", "cut", [3]))
        self.assertEqual(ring_certificate(strip, "q", 1), ("blocked", "cut", [2, 3]))
        self.assertEqual(ring_certificate(strip, "q", 2), ("set", ["p", "q", "r"]))
        self.assertIs(is_ring_certificate(strip, "q", 1, ("blocked", "cut", [3, 2])), True)
        self.assertIs(is_ring_certificate(strip, "q", 2, ("set", ("r", "p", "q"))), True)
        for detail in ([2], [3], [2, 3, 0], [1, 2, 3], (2, 3), [2, 3, 2], [2, 3, 4], [], [2.5], ["2", 3]):
            self.assertIs(is_ring_certificate(strip, "q", 1, ("blocked", "cut", detail)), False)

    def test_one_change(self):
        rng = random.Random(89)
        for row in some_rows()[::2] + ring_rows():
            graph = Graph(row)
            pairs = list(itertools.product(graph.names, range(1, graph.total)))
            for name, ring in rng.sample(pairs, min(12, len(pairs))):
                value = ring_certificate(Strip(row), name, ring)
                for changed in self.changed(rng, graph, value):
                    expected = graph.shows_ring(name, ring, changed)
                    self.assertIs(is_ring_certificate(Strip(row), name, ring, changed), expected,
                                  (row, name, ring, changed))

    def changed(self, rng, graph, value):
        parts = list(range(-1, graph.total + 1)) + [True, False]
        found = [list(value), value[:1], value + ([],), (value[0].upper(), *value[1:]), value[1:], (value,),
                 ("blocked", *value[1:]), ("set", value[-1]), (rng.choice(any_values()), *value[1:]),
                 (*value[:-1], rng.choice(any_values()))]
        found += [("set", tree) for tree in rng.sample(graph.trees(), min(6, len(graph.trees())))]
        found += [("set", tuple(tree[::-1])) for tree in graph.trees()[:2]] + [("set", graph.names)]
        found += [("blocked", "within", part) for part in parts] + [("blocked", "within", [0])]
        if value[0] == "set":
            found += [("set", names) for names in changed_lists(rng, value[1], graph.names)]
        details = [rng.sample(parts, rng.randrange(min(5, len(parts)))) for _ in range(8)]
        details += [list(range(start, graph.total)) for start in range(3)] + [[part, part] for part in parts]
        if isinstance(value[-1], list) and value[0] == "blocked":
            details += changed_lists(rng, value[2], parts)
        reasons = ("beside", "cut", "within", "unreached")
        return found + [("blocked", reason, detail) for reason in reasons for detail in details]

    def test_every_list_of_parts(self):
        for row in [row for row in ring_rows() if Graph(row).total in (2, 3, 4)]:
            graph = Graph(row)
            for name, ring in itertools.product(graph.names, range(1, graph.total)):
                for total in range(graph.total + 1):
                    for parts in itertools.permutations(range(graph.total), total):
                        for reason in ("beside", "cut"):
                            value = ("blocked", reason, list(parts))
                            self.assertIs(is_ring_certificate(Strip(row), name, ring, value),
                                          graph.shows_ring(name, ring, value), (row, name, ring, value))

    def test_values_of_every_kind(self):
        row = shaped_row("nested", 2)
        name = names_in(row)[0]
        for value in any_values():
            self.assertIs(is_ring_certificate(Strip(row), name, 1, value), False)
            for changed in (("set", value), ("blocked", "within", value), ("blocked", "cut", value), (value, [name]),
                            ("blocked", "beside", value), ("blocked", value, []), (value, "cut", [2]),
                            ("blocked", "cut", [value]), ("set", [value]), ("blocked", "beside", [0, value])):
                expected = Graph(row).shows_ring(name, 1, changed)
                self.assertIs(is_ring_certificate(Strip(row), name, 1, changed), expected)

    def test_unknown_parts(self):
        for row in (shaped_row("nested", 2), shaped_row("crossing", 2), THREE):
            name = names_in(row)[0]
            rings = range(1, Graph(row).total)
            for value in any_values() + [0, -1, 3, 4, [1], (1,), "1", {1: 1}]:
                if type(value) is not int or value not in rings:
                    for call in (can_make_ring, ring_certificate):
                        self.assert_raises(UnknownPart, value, call, Strip(row), name, value)
                        self.assert_raises(UnknownPart, value, call, ring=value, name=name, strip=Strip(row))
                    self.assert_raises(UnknownPart, value, is_ring_certificate, Strip(row), name, value, None)

    def test_the_order_of_the_errors(self):
        calls = [can_make_ring, ring_certificate, lambda strip, name, ring: is_ring_certificate(strip, name, ring, 0)]
        for call in calls:
            for value in no_strips():
                self.assert_raises(InvalidStrip, value, call, value, "z", 0)
            for value in any_values() + ["z", ["p"], ("p",)]:
                if value not in ("p", "q", "r"):
                    self.assert_raises(UnknownName, value, call, Strip(THREE), value, 0)
                    self.assert_raises(UnknownName, value, call, Strip(THREE), value, 1)
            self.assert_raises(UnknownPart, 0, call, Strip(THREE), "p", 0)

    def test_new_lists_each_time(self):
        strip = Strip(shaped_row("nested", 3))
        for name, ring in itertools.product(strip.names(), (1, 2, 3)):
            first = ring_certificate(strip, name, ring)
            expected = (*first[:-1], list(first[-1]))
            first[-1].append("changed")
            self.assertEqual(ring_certificate(strip, name, ring), expected)


class Guarantees(Case):
    """What point 9 says of loop sets."""

    def test_with_other_names(self):
        rng = random.Random(9)
        for row in some_rows()[::2] + ring_rows()[::2]:
            new = other_names(rng, names_in(row))
            strip, other = Strip(row), Strip(renamed_row(row, new))
            self.assertEqual(loop_sets(other), [[new[name] for name in names] for names in loop_sets(strip)])
            for name in names_in(row):
                self.assertEqual([can_loop(other, new[name]), must_loop(other, new[name])],
                                 [can_loop(strip, name), must_loop(strip, name)])
                for ring in range(1, len(join_all(strip)) + 1):
                    self.assertEqual(can_make_ring(other, new[name], ring), can_make_ring(strip, name, ring))

    def test_the_flipped_strip(self):
        for row in some_rows()[::2] + ring_rows()[::2]:
            strip, flipped = Strip(row), Strip(flipped_items(row))
            self.assertEqual({frozenset(names) for names in loop_sets(flipped)},
                             {frozenset(names) for names in loop_sets(strip)})
            for name in names_in(row):
                self.assertEqual([can_loop(flipped, name), must_loop(flipped, name)],
                                 [can_loop(strip, name), must_loop(strip, name)])

    def test_the_arguments_are_unchanged(self):
        for row in ring_rows()[::3]:
            strip, names = Strip(row), names_in(row)
            value = loop_certificate(strip, names)
            kept = (*value[:-1], list(value[-1]))
            is_loop_certificate(strip, names, value)
            self.assertEqual((names, value, strip.row()), (names_in(row), kept, row))
