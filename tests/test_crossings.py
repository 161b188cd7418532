"""Points 51 to 59, and what 7 to 9 say of rank and rings."""

import copy
import itertools
import random

from markersplice.crossings import CrossingTable, crossing_table, ring_count_by_rank
from markersplice.errors import (
    InvalidNames, InvalidNumbers, InvalidOperation, InvalidStrip, NotApplicable, UnknownName,
)
from markersplice.operations import apply_op, available_ops
from markersplice.strips import Strip
from support import (
    SAMPLE_ROW, Case, PlainJoin, any_values, complete_run, cross_in, inverted_in, looks_like_name, mixed_strip_rows,
    name_list, names_in, no_strips, other_names, removed_by, renamed_row, sample_strip_rows, subsets,
)

NAMES = ["p", "q", "r"]
ROWS = [[0, 1, 0], [1, 1, 0], [0, 0, 0]]


def some_rows():
    return mixed_strip_rows() + sample_strip_rows()[::6]


def plain_rows(row):
    """The entries of the crossing table of a strip, as point 51 words it."""
    names = names_in(row)
    return [[int(cross_in(row, one, other) or (one == other and inverted_in(row, one))) for other in names]
            for one in names]


def sample_tables():
    """Names and rows of tables with zero to twelve names."""
    rng = random.Random(51)
    found = [([], []), (["p"], [[0]]), (["p"], [[1]]), (NAMES, ROWS)]
    for total in range(1, 13):
        for ones in (2, 3, 6):
            rows = [[0] * total for _ in range(total)]
            for i, j in itertools.combinations_with_replacement(range(total), 2):
                rows[i][j] = rows[j][i] = int(rng.randrange(ones) == 0)
            found.append((name_list(total), rows))
    # Ranks that are lower than random rows have: rows that repeat.
    for total in (3, 5, 8, 12):
        found.append((name_list(total), [[int(i % 2 == j % 2) for j in range(total)] for i in range(total)]))
        found.append((name_list(total), [[int(i % 3 != j % 3) for j in range(total)] for i in range(total)]))
        found.append((name_list(total), [[1] * total for _ in range(total)]))
    return found


def plain_rank(rows):
    """The rank, from the number of different sums of rows."""
    sums = {tuple([0] * len(rows))}
    for row in rows:
        sums |= {tuple((one + other) % 2 for one, other in zip(row, total)) for total in sums}
    return len(sums).bit_length() - 1


def distinct_names_among(value, names):
    return (type(value) is list and all(looks_like_name(name) and name in names for name in value)
            and len(set(value)) == len(value))


def shows_rank(names, rows, value):
    """Whether a value is a rank certificate, as points 55 and 56 word it."""
    if type(value) is not tuple or len(value) != 3:
        return False
    chosen, sums, probes = value
    if not distinct_names_among(chosen, names) or len(chosen) != plain_rank(rows):
        return False
    if type(sums) is not dict or set(sums) != set(names) - set(chosen):
        return False
    if type(probes) is not dict or set(probes) != set(chosen):
        return False
    row_of = dict(zip(names, rows))
    for name in sums:
        if not distinct_names_among(sums[name], chosen):
            return False
        if [sum(column) % 2 for column in zip([0] * len(names), *[row_of[one] for one in sums[name]])] != row_of[name]:
            return False
    for name in probes:
        if not distinct_names_among(probes[name], names):
            return False
        numbers = [names.index(one) for one in probes[name]]
        if any(sum(row_of[other][k] for k in numbers) % 2 != int(other == name) for other in chosen):
            return False
    return True


def reordered(names, rows, order):
    """The same table with its names in another order."""
    return [names[k] for k in order], [[rows[k][n] for n in order] for k in order]


def told(table):
    """All that a table tells."""
    names = table.names()
    return [names, table.rows(), [[table.entry(one, other) for other in names] for one in names],
            [table.neighbors(name) for name in names], table.components(), table.rank(), table.rank_certificate(),
            len(table), str(table), repr(table)]


class Creating(Case):
    def test_lists_and_tuples(self):
        for names, rows in sample_tables():
            expected = told(CrossingTable(names, rows))
            self.assertEqual(expected[:3], [names, rows, rows])
            self.assertEqual(told(CrossingTable(tuple(names), tuple(tuple(row) for row in rows))), expected)
            self.assertEqual(told(CrossingTable(names, [tuple(row) for row in rows])), expected)
            self.assertEqual(told(CrossingTable(rows=rows, names=names)), expected)

    def test_names_that_are_none(self):
        for value in any_values():
            right = type(value) in (list, tuple) and all(looks_like_name(item) for item in value)
            if not right or len(set(value)) != len(value):
                self.assert_raises(InvalidNames, value, CrossingTable, value, 0)
                self.assert_raises(InvalidNames, value, CrossingTable, rows=[], names=value)
            if not looks_like_name(value):
                for names in ([value], ("q", value), [value, "q"]):
                    self.assert_raises(InvalidNames, names, CrossingTable, names, [[0, 0], [0, 0]])
        for names in (["p", "p"], ("p", "q", "p"), {"p": 1}, "pq", name_list(13), tuple(name_list(16))):
            self.assert_raises(InvalidNames, names, CrossingTable, names, [[0] * len(names)] * len(names))
        self.assertEqual(len(CrossingTable(name_list(12), [[1] * 12] * 12)), 12)

    def test_rows_that_are_wrong(self):
        for value in any_values():
            if not (type(value) in (list, tuple) and len(value) == 0):
                self.assert_raises(InvalidNumbers, value, CrossingTable, [], value)
                self.assert_raises(InvalidNumbers, value, CrossingTable, rows=value, names=())
            self.assert_raises(InvalidNumbers, value, CrossingTable, ["p"], value)
            self.assert_raises(InvalidNumbers, rows := [value], CrossingTable, ["p"], rows)
            if not (type(value) is int and value in (0, 1)):
                self.assert_raises(InvalidNumbers, rows := [[value]], CrossingTable, ["p"], rows)
                self.assert_raises(InvalidNumbers, rows := [[0, value], (value, 1)], CrossingTable, ["p", "q"], rows)
        wrong = [
            [], [[0, 1]], [[0, 1], [1, 0], [0, 0]], [[0, 1], [1]], [[0, 1], [1, 0, 0]], [[0, 1, 0], [1, 0, 0]],
            [[0, 1], [0, 0]], [[0, 0], [1, 0]], [[0, True], [True, 0]], [[False, 1], [1, 0]], [[2, 1], [1, 0]],
            [[0, -1], [-1, 0]], [[0, "1"], ["1", 0]], {0: [0, 1], 1: [1, 0]}, [{0: 0, 1: 1}, [1, 0]], ["01", "10"],
            [[0, 1], None], [[0, [1]], [[1], 0]],
        ]
        for rows in wrong:
            self.assert_raises(InvalidNumbers, rows, CrossingTable, ["p", "q"], rows)

    def test_one_entry_that_is_not_symmetric(self):
        for names, rows in sample_tables():
            for i, j in itertools.permutations(range(len(names)), 2):
                changed = copy.deepcopy(rows)
                changed[i][j] = 1 - changed[i][j]
                self.assert_raises(InvalidNumbers, changed, CrossingTable, names, changed)

    def test_copies(self):
        names, rows = list(NAMES), copy.deepcopy(ROWS)
        table = CrossingTable(names, rows)
        before = copy.deepcopy(told(table))
        told(table)
        self.assertEqual((names, rows), (NAMES, ROWS))
        rows[0][0] = 5
        rows.pop()
        names.clear()
        self.assertEqual(told(table), before)
        for value in told(table):
            self.spoil(value)
        self.assertEqual(told(table), before)

    def spoil(self, value):
        """Change a returned value wherever it can be changed."""
        if isinstance(value, dict):
            for item in list(value.values()):
                self.spoil(item)
            value.clear()
        if isinstance(value, (list, tuple)):
            for item in value:
                self.spoil(item)
        if isinstance(value, list):
            value.append("changed")
            value[0] = "changed"


class OfStrips(Case):
    def test_the_sample(self):
        table = crossing_table(Strip(SAMPLE_ROW))
        self.assertEqual(table.names(), ["a", "b", "c", "d"])
        self.assertEqual(table.rows(), [[0, 1, 0, 0], [1, 1, 0, 0], [0, 0, 0, 0], [0, 0, 0, 1]])
        self.assertEqual(table.components(), [["a", "b"], ["c"], ["d"]])

    def test_all_strips(self):
        for row in some_rows():
            table = crossing_table(Strip(row))
            self.assertIs(type(table), CrossingTable)
            self.assertEqual(table.names(), names_in(row))
            self.assertEqual(table.rows(), plain_rows(row))
            self.assertEqual(crossing_table(strip=Strip(row)), table)
            self.assertEqual(told(CrossingTable(names_in(row), plain_rows(row))), told(table))

    def test_no_strips(self):
        for value in no_strips():
            self.assert_raises(InvalidStrip, value, crossing_table, value)
            self.assert_raises(InvalidStrip, value, crossing_table, strip=value)

    def test_the_flipped_strip_and_other_names(self):
        rng = random.Random(9)
        for row in some_rows():
            table = crossing_table(Strip(row))
            self.assertEqual(crossing_table(Strip(row).flipped()), table)
            new = other_names(rng, names_in(row))
            other = crossing_table(Strip(renamed_row(row, new)))
            self.assertEqual((other.names(), other.rows()), ([new[name] for name in table.names()], table.rows()))


class Accessors(Case):
    def test_the_example(self):
        table = CrossingTable(NAMES, ROWS)
        self.assertEqual([table.entry("q", "q"), table.neighbors("q"), table.components(),
                          str(table.subtable(["q", "p"]))], [1, ["p"], [["p", "q"], ["r"]], "p 01\nq 11"])

    def test_entries_and_neighbors(self):
        for names, rows in sample_tables():
            table = CrossingTable(names, rows)
            for i, one in enumerate(names):
                expected = [other for j, other in enumerate(names) if rows[i][j] == 1 and i != j]
                self.assertEqual(table.neighbors(one), expected)
                self.assertEqual(table.neighbors(name=one), expected)
                self.assertIs(type(table.neighbors(one)), list)
                for j, other in enumerate(names):
                    self.assertEqual(table.entry(one, other), rows[i][j])
                    self.assertEqual(table.entry(other=other, one=one), rows[i][j])
                    self.assertIs(type(table.entry(one, other)), int)

    def test_components(self):
        for names, rows in sample_tables():
            table = CrossingTable(names, rows)
            # A name reaches what its lowest label reaches; the labels sink until nothing changes.
            labels = list(range(len(names)))
            for _ in names:
                labels = [min(labels[j] for j in range(len(names)) if i == j or rows[i][j] == 1)
                          for i in range(len(names))]
            expected = [[name for name, other in zip(names, labels) if other == label] for label in sorted(set(labels))]
            self.assertEqual(table.components(), expected)

    def test_components_of_chains_in_any_order(self):
        rng = random.Random(53)
        rows = [[int(abs(i - j) == 1 and 5 not in (i, j)) for j in range(12)] for i in range(12)]
        for _ in range(20):
            order = rng.sample(range(12), 12)
            names, entries = reordered(name_list(12), rows, order)
            groups = [[name_list(12)[k] for k in order if k < 5], [name_list(12)[5]],
                      [name_list(12)[k] for k in order if k > 5]]
            self.assertEqual(CrossingTable(names, entries).components(),
                             sorted(groups, key=lambda group: names.index(group[0])))

    def test_subtables(self):
        rng = random.Random(54)
        for names, rows in sample_tables():
            table = CrossingTable(names, rows)
            for chosen in subsets(rng, names):
                numbers = [k for k, name in enumerate(names) if name in chosen]
                expected = [names[k] for k in numbers], [[rows[i][j] for j in numbers] for i in numbers]
                for part in (table.subtable(chosen), table.subtable(tuple(chosen)), table.subtable(names=chosen)):
                    self.assertIs(type(part), CrossingTable)
                    self.assertEqual((part.names(), part.rows()), expected)
            self.assertEqual((table.names(), table.rows()), (names, rows))

    def test_unknown_names(self):
        table = CrossingTable(NAMES, ROWS)
        for value in any_values() + ["s", "pp", ["p"], ("p",)]:
            if looks_like_name(value) and value in NAMES:
                continue
            self.assert_raises(UnknownName, value, table.entry, value, "p")
            self.assert_raises(UnknownName, value, table.entry, "p", value)
            self.assert_raises(UnknownName, value, table.entry, value, [value])
            self.assert_raises(UnknownName, value, table.entry, other=0, one=value)
            self.assert_raises(UnknownName, value, table.neighbors, value)
            self.assert_raises(UnknownName, value, table.neighbors, name=value)
            self.assert_raises(UnknownName, value, CrossingTable([], []).neighbors, value)

    def test_the_errors_of_subtables(self):
        table = CrossingTable(NAMES, ROWS)
        for value in any_values():
            right = type(value) in (list, tuple) and all(looks_like_name(item) for item in value)
            if not right or len(set(value)) != len(value):
                self.assert_raises(InvalidNames, value, table.subtable, value)
                self.assert_raises(InvalidNames, value, table.subtable, names=value)
            if not looks_like_name(value):
                self.assert_raises(InvalidNames, names := ["s", value], table.subtable, names)
        for names in (["p", "p"], ["s", "s"], ("p", "q", "q", "s"), "pq", {"p": 1}):
            self.assert_raises(InvalidNames, names, table.subtable, names)
        for names, first in ((["s"], "s"), (["p", "t", "s"], "t"), (("q", "pp", "p"), "pp"), (name_list(16), "b")):
            self.assert_raises(UnknownName, first, table.subtable, names)


class Equality(Case):
    def test_any_order_of_the_names(self):
        rng = random.Random(54)
        for names, rows in sample_tables():
            table = CrossingTable(names, rows)
            for _ in range(4):
                order = rng.sample(range(len(names)), len(names))
                self.assert_equality(table, CrossingTable(*reordered(names, rows, order)), True)
                if order != sorted(order):
                    other = CrossingTable(reordered(names, rows, order)[0], rows)
                    same = all(rows[i][j] == rows[order.index(i)][order.index(j)]
                               for i in range(len(names)) for j in range(len(names)))
                    self.assert_equality(table, other, same)

    def test_one_change(self):
        for names, rows in sample_tables():
            table = CrossingTable(names, rows)
            for i, j in itertools.combinations_with_replacement(range(len(names)), 2):
                changed = copy.deepcopy(rows)
                changed[i][j] = changed[j][i] = 1 - rows[i][j]
                self.assert_equality(table, CrossingTable(names, changed), False)
            for name in names:
                changed = [other if other != name else "new" for other in names]
                self.assert_equality(table, CrossingTable(changed, rows), False)
                self.assert_equality(table, table.subtable([other for other in names if other != name]), False)

    def test_values_of_other_kinds(self):
        for names, rows in (([], []), (NAMES, ROWS)):
            table = CrossingTable(names, rows)
            for value in any_values() + [names, rows, str(table), (names, rows), Strip(["a"])]:
                if type(value) is not CrossingTable:
                    self.assert_equality(table, value, False)

    def test_texts(self):
        self.assertEqual(str(CrossingTable(NAMES, ROWS)), "p 010\nq 110\nr 000")
        self.assertEqual(str(CrossingTable([], [])), "")
        for names, rows in sample_tables():
            table = CrossingTable(names, rows)
            lines = [name + " " + "".join("01"[entry] for entry in row) for name, row in zip(names, rows)]
            self.assertEqual(str(table), "\n".join(lines))
            self.assertEqual(repr(table), "CrossingTable(" + str(len(names)) + ")")
            self.assertEqual(len(table), len(names))


class Ranks(Case):
    def test_the_rank(self):
        for names, rows in sample_tables():
            self.assertEqual(CrossingTable(names, rows).rank(), plain_rank(rows))
            self.assertIs(type(CrossingTable(names, rows).rank()), int)
        for row in some_rows():
            self.assertEqual(crossing_table(Strip(row)).rank(), plain_rank(plain_rows(row)))

    def test_every_small_table(self):
        for total in (1, 2, 3, 4):
            pairs = list(itertools.combinations_with_replacement(range(total), 2))
            for entries in itertools.product((0, 1), repeat=len(pairs)):
                rows = [[0] * total for _ in range(total)]
                for (i, j), entry in zip(pairs, entries):
                    rows[i][j] = rows[j][i] = entry
                self.check(name_list(total), rows)

    def check(self, names, rows):
        table = CrossingTable(names, rows)
        value = table.rank_certificate()
        self.assertEqual(table.rank(), plain_rank(rows))
        self.assertTrue(shows_rank(names, rows, value), (rows, value))
        self.assertIs(table.is_rank_certificate(value), True)
        chosen, sums, probes = value
        self.assertEqual(len(chosen), table.rank())
        lists = [chosen, list(sums), list(probes), *sums.values(), *probes.values()]
        for found in lists:
            self.assertEqual(found, [name for name in names if name in found])
        self.assertEqual(list(probes), chosen)
        objects = [chosen, *sums.values(), *probes.values()]
        self.assertEqual(len({id(found) for found in objects}), len(objects))

    def test_certificates(self):
        for names, rows in sample_tables():
            self.check(names, rows)
            one, other = CrossingTable(names, rows), CrossingTable(names, rows)
            self.assertEqual(one.rank_certificate(), other.rank_certificate())
        self.assertEqual(CrossingTable([], []).rank_certificate(), ([], {}, {}))
        self.assertEqual(CrossingTable(["p"], [[0]]).rank_certificate(), ([], {"p": []}, {}))
        self.assertEqual(CrossingTable(["p"], [[1]]).rank_certificate(), (["p"], {}, {"p": ["p"]}))

    def test_other_certificates(self):
        rng = random.Random(56)
        for names, rows in sample_tables():
            table = CrossingTable(names, rows)
            for _ in range(4):
                order = rng.sample(range(len(names)), len(names))
                value = CrossingTable(*reordered(names, rows, order)).rank_certificate()
                self.assertTrue(shows_rank(names, rows, value))
                self.assertIs(table.is_rank_certificate(value), True)
                chosen, sums, probes = value
                shuffled = (chosen[::-1], {name: sums[name][::-1] for name in list(sums)[::-1]},
                            {name: probes[name][::-1] for name in list(probes)[::-1]})
                self.assertIs(table.is_rank_certificate(shuffled), True)
                self.assertIs(table.is_rank_certificate(value=shuffled), True)

    def changed(self, rng, names, value):
        """A certificate with one thing changed."""
        chosen, sums, probes = copy.deepcopy(value)
        table = rng.choice([sums, probes])
        name = rng.choice(names + ["new"])
        kind = rng.randrange(9)
        if kind == 0:
            chosen.append(name)
        elif kind == 1 and chosen:
            chosen.remove(rng.choice(chosen))
        elif kind == 2 and chosen:
            chosen[rng.randrange(len(chosen))] = name
        elif kind == 3:
            table[name] = rng.sample(names, rng.randrange(len(names) + 1))
        elif kind == 4 and table:
            table.pop(rng.choice(list(table)))
        elif table:
            found = table[rng.choice(list(table))]
            if kind in (5, 6):
                found.append(name)
            elif found:
                found.remove(rng.choice(found))
        return (chosen, sums, probes)

    def test_one_thing_changed(self):
        rng = random.Random(57)
        answers = []
        for names, rows in sample_tables():
            table = CrossingTable(names, rows)
            value = table.rank_certificate()
            for _ in range(30):
                changed = self.changed(rng, names, value)
                answers.append(shows_rank(names, rows, changed))
                self.assertIs(table.is_rank_certificate(changed), answers[-1], (rows, changed))
        self.assertEqual(set(answers), {True, False})

    def test_values_of_other_kinds(self):
        table = CrossingTable(["p", "q", "r"], [[0, 1, 0], [1, 0, 0], [0, 0, 0]])
        right = (["p", "q"], {"r": []}, {"p": ["q"], "q": ["p"]})
        self.assertIs(table.is_rank_certificate(right), True)
        wrong = [
            list(right), right[:2], (*right, []), (("p", "q"), *right[1:]), (["p", "q"], {"r": ()}, right[2]),
            (["p", "q"], {"r": []}, {"p": ("q",), "q": ["p"]}), (["p", "q"], [("r", [])], right[2]),
            (["p", "q"], {"r": []}, [("p", ["q"]), ("q", ["p"])]), (["p", "q", "q"], *right[1:]),
            (["p", "p"], *right[1:]), (["p", "q"], {"r": ["p", "p"]}, right[2]),
            (["p", "q"], {"r": [], "s": []}, right[2]), (["p", "q"], {"r": [], 0: []}, right[2]),
            (["p", "q"], {}, right[2]), (["p", "q"], {"s": []}, right[2]),
            (["p", "q"], {"r": []}, {"p": ["q", "q", "q"], "q": ["p"]}), (["p", "q"], {"r": ["r"]}, right[2]),
            (["p", "q"], {"r": []}, {"p": ["q"], "q": ["p"], "r": []}), (["p", "q"], {"r": []}, {"p": ["q"]}),
            (["p"], {"r": [], "q": []}, {"p": ["q"]}), (["p", "q", "r"], {}, {"p": ["q"], "q": ["p"], "r": []}),
            (["p", "s"], {"r": [], "q": []}, {"p": ["q"], "s": ["p"]}),
            (["p", ["q"]], *right[1:]), (["p", 1], *right[1:]),
            (["p", "q"], {"r": None}, right[2]), (["p", "q"], {"r": []}, {"p": ["q", "s"], "q": ["p"]}),
            (["p", "q"], {"r": []}, {"p": ["q", ["r"]], "q": ["p"]}), ({"p": 1, "q": 1}, *right[1:]),
            (["p", "q"], {"r": []}, {"p": {"q": 1}, "q": ["p"]}), (["p", "q"], {"r": {}}, right[2]),
            (["p", "q"], {"r": []}, {"p": "q", "q": "p"}), ("pq", *right[1:]), ([], {}, {}),
        ]
        for value in wrong + any_values():
            self.assertIs(table.is_rank_certificate(value), False, value)
        self.assertIs(table.is_rank_certificate((["p", "q"], {"r": []}, {"q": ["r", "p"], "p": ["q", "r"]})), True)
        for value in any_values():
            self.assertIs(CrossingTable([], []).is_rank_certificate(value), value == ([], {}, {}))
            for place in range(3):
                if value != right[place]:
                    changed = (*right[:place], value, *right[place + 1:])
                    self.assertIs(table.is_rank_certificate(changed), shows_rank(NAMES, table.rows(), changed))


def table_blocker(names, rows, op):
    """The first blocker of an operation in a table, as point 57 words it."""
    def entry(one, other):
        return rows[names.index(one)][names.index(other)]

    if op[0] == "flip":
        return None if entry(op[1], op[1]) == 1 else ("direct", op[1])
    for name in op[1:]:
        if entry(name, name) == 1:
            return ("inverted", name)
    if op[0] == "swap":
        return None if entry(op[1], op[2]) == 1 else ("uncrossed", op[1], op[2])
    crossed = [other for other in names if other != op[1] and entry(op[1], other) == 1]
    return ("crossed", op[1], crossed[0]) if crossed else None


def changed_entry(names, rows, op, one, other):
    """The entry of two names after an operation, as point 57 words it."""
    def linked(name, second):
        return rows[names.index(name)][names.index(second)] == 1

    changes = False
    if op[0] == "flip":
        changes = linked(op[1], one) and linked(op[1], other)
    if op[0] == "swap":
        _, p, q = op
        changes = (linked(p, one) and linked(q, other)) != (linked(q, one) and linked(p, other))
    return 1 - int(linked(one, other)) if changes else int(linked(one, other))


def ops_of(names):
    pairs = itertools.permutations(names, 2)
    return [(kind, name) for name in names for kind in ("loop", "flip")] + [("swap", *pair) for pair in pairs]


class After(Case):
    def test_the_example(self):
        self.assertEqual(str(CrossingTable(NAMES, ROWS).after(("flip", "q"))), "p 10\nr 00")

    def test_every_operation(self):
        for names, rows in sample_tables():
            table = CrossingTable(names, rows)
            for op in ops_of(names[:6]):
                expected = table_blocker(names, rows, op)
                if expected is not None:
                    caught = self.assert_raises(NotApplicable, op, table.after, op, attribute="op")
                    self.assertEqual(caught.blocker, expected)
                    self.assertIs(type(caught.blocker), tuple)
                    continue
                rest = [name for name in names if name not in op[1:]]
                found = table.after(op)
                self.assertIs(type(found), CrossingTable)
                self.assertEqual(found.names(), rest)
                self.assertEqual(found.rows(), [[changed_entry(names, rows, op, one, other) for other in rest]
                                                for one in rest])
                self.assertEqual(table.after(op=op), found)
            self.assertEqual((table.names(), table.rows()), (names, rows))

    def test_errors(self):
        table = CrossingTable(NAMES, ROWS)
        nearly = [("swap", "p", "p"), ("loop", "p", "q"), ["flip", "q"], ("flip", "Q"), ("loop", ["p"])]
        for value in any_values() + nearly:
            if value not in (("loop", "p"), ("swap", "p", "q")):
                self.assert_raises(InvalidOperation, value, table.after, value)
                self.assert_raises(InvalidOperation, value, table.after, op=value)
        for op, name in ((("loop", "s"), "s"), (("flip", "pp"), "pp"), (("swap", "s", "t"), "s"),
                         (("swap", "q", "t"), "t"), (("swap", "t", "q"), "t")):
            self.assert_raises(UnknownName, name, table.after, op)
        for op, expected in ((("loop", "q"), ("inverted", "q")), (("loop", "p"), ("crossed", "p", "q")),
                             (("flip", "r"), ("direct", "r")), (("swap", "p", "q"), ("inverted", "q")),
                             (("swap", "r", "q"), ("inverted", "q")), (("swap", "r", "p"), ("uncrossed", "r", "p"))):
            caught = self.assert_raises(NotApplicable, op, table.after, op, attribute="op")
            self.assertEqual(caught.blocker, expected)

    def test_both_names_of_a_swap_are_inverted(self):
        table = CrossingTable(["p", "q"], [[1, 1], [1, 1]])
        for op in (("swap", "p", "q"), ("swap", "q", "p")):
            caught = self.assert_raises(NotApplicable, op, table.after, op, attribute="op")
            self.assertEqual(caught.blocker, ("inverted", op[1]))

    def test_a_loop_that_the_strip_does_not_allow_yet(self):
        strip = Strip(["", ("p", True), "", ("q", False), "", ("q", True), "", ("p", True), ""])
        self.assertEqual(crossing_table(strip).after(("loop", "p")), CrossingTable(["q"], [[1]]))

    def test_against_the_strip_that_the_operation_leaves(self):
        for row in some_rows():
            strip = Strip(row)
            table = crossing_table(strip)
            for op in available_ops(strip):
                left = apply_op(strip, op)[0]
                self.assertEqual(table.after(op), crossing_table(left))
                if op[0] == "swap":
                    self.assertEqual(table.after(("swap", op[2], op[1])), crossing_table(left))
                change = {"loop": 0, "flip": 1, "swap": 2}[op[0]]
                self.assertEqual(table.rank() - table.after(op).rank(), change)

    def test_the_ranks_of_any_table(self):
        for names, rows in sample_tables():
            table = CrossingTable(names, rows)
            for op in ops_of(names[:5]):
                if table_blocker(names, rows, op) is None:
                    change = {"loop": 0, "flip": 1, "swap": 2}[op[0]]
                    self.assertEqual(table.rank() - table.after(op).rank(), change)


class RingCount(Case):
    def test_against_a_walk(self):
        rng = random.Random(59)
        for row in some_rows():
            for names in subsets(rng, names_in(row)):
                expected = len(PlainJoin(row, names).paths) - 1
                for value in (ring_count_by_rank(Strip(row), names), ring_count_by_rank(Strip(row), tuple(names)),
                              ring_count_by_rank(names=names, strip=Strip(row))):
                    self.assertEqual(value, expected)
                    self.assertIs(type(value), int)

    def test_against_the_loops(self):
        rng = random.Random(60)
        for row in some_rows():
            for ops, _, rings in complete_run(rng, Strip(row)):
                self.assertEqual(ring_count_by_rank(Strip(row), removed_by(ops)), len(rings))

    def test_errors(self):
        strip = Strip(SAMPLE_ROW)
        for value in no_strips():
            self.assert_raises(InvalidStrip, value, ring_count_by_rank, value, 0)
            self.assert_raises(InvalidStrip, value, ring_count_by_rank, names=["p", "p"], strip=value)
        for value in any_values():
            right = type(value) in (list, tuple) and all(looks_like_name(item) for item in value)
            if not right or len(set(value)) != len(value):
                self.assert_raises(InvalidNames, value, ring_count_by_rank, strip, value)
                self.assert_raises(InvalidNames, value, ring_count_by_rank, names=value, strip=strip)
        for names, first in ((["s"], "s"), (["a", "t", "s"], "t"), (("d", "aa", "p"), "aa")):
            self.assert_raises(UnknownName, first, ring_count_by_rank, strip, names)
        self.assert_raises(InvalidNames, names := ["s", "s"], ring_count_by_rank, strip, names)
