"""Crossing tables: which names cross and which are inverted, their rank, and what operations do."""

from markersplice.checks import check_known, check_names, check_strip, is_name_list
from markersplice.errors import InvalidNames, InvalidNumbers, NotApplicable, UnknownName
from markersplice.operations import op_names
from markersplice.ranks import independence
from markersplice.rows import is_integer, is_name
from markersplice.strips import MOST_NAMES


class CrossingTable:
    """Distinct names, in an order, with an entry 0 or 1 for every two names and for each with itself."""

    def __init__(self, names, rows):
        if not is_name_list(names) or len(names) > MOST_NAMES:
            raise InvalidNames(names)
        if not _are_entries(rows, len(names)):
            raise InvalidNumbers(rows)
        # Dicts are equal whatever the order of their keys, as tables are.
        self._entries = {name: dict(zip(names, row)) for name, row in zip(names, rows)}

    def names(self):
        """Return the names."""
        return list(self._entries)

    def rows(self):
        """Return the rows, which are lists."""
        return [list(row.values()) for row in self._entries.values()]

    def entry(self, one, other):
        """Return the entry of two names."""
        self._check_name(one)
        self._check_name(other)
        return self._entries[one][other]

    def neighbors(self, name):
        """Return the other names whose entry with a name is 1."""
        self._check_name(name)
        row = self._entries[name]
        return [other for other in row if other != name and row[other] == 1]

    def components(self):
        """Return the components, each as the list of its names."""
        found = []
        placed = []
        for name in self._entries:
            if name not in placed:
                component = self._component(name)
                found.append(component)
                placed.extend(component)
        return found

    def subtable(self, names):
        """Return the table of just these names."""
        check_names(names)
        check_known(names, self._entries)
        kept = [name for name in self._entries if name in names]
        return CrossingTable(kept, [[self._entries[one][other] for other in kept] for one in kept])

    def rank(self):
        """Return the largest number of rows that are independent."""
        basis, _ = independence(self.rows())
        return len(basis)

    def rank_certificate(self):
        """Return chosen names, sums that give the other rows, and probes that tell the chosen ones apart."""
        names = self.names()
        basis, dependent = independence(self.rows())
        sums = {names[number]: [names[row] for row in dependent[number]] for number in dependent}
        probes = {}
        for number, name in enumerate(names):
            if number not in dependent:
                # A sum of the basis has its own column only. So the columns of the sums
                # that contain a row meet this row an odd number of times, and no other.
                columns = [column for column in basis if number in basis[column]]
                probes[name] = [names[column] for column in sorted(columns)]
        return (list(probes), sums, probes)

    def is_rank_certificate(self, value):
        """Return True if a value shows the rank in the way of a rank certificate."""
        if not isinstance(value, tuple) or len(value) != 3:
            return False
        chosen, sums, probes = value
        if not _is_selection(chosen, self._entries):
            return False
        others = [name for name in self._entries if name not in chosen]
        if not _has_selections(sums, others, chosen) or not _has_selections(probes, chosen, self._entries):
            return False
        return (all([self._is_sum(name, sums[name]) for name in others])
                and all([self._is_probe(name, probes[name], chosen) for name in chosen]))

    def after(self, op):
        """Return the table of the names that remain after an operation."""
        removed = op_names(op)
        check_known(removed, self._entries)
        found = self._blocker(op)
        if found is not None:
            raise NotApplicable(op, found)
        kept = [name for name in self._entries if name not in removed]
        return CrossingTable(kept, [[self._entry_after(op, one, other) for other in kept] for one in kept])

    def _check_name(self, name):
        # What is no name may have no hash, so it is not looked up in the dict.
        if not is_name(name) or name not in self._entries:
            raise UnknownName(name)

    def _component(self, name):
        """Return the component of a name, in the table's order."""
        reached = [name]
        waiting = [name]
        while len(waiting) > 0:
            last = waiting.pop()
            new = [other for other in self.neighbors(last) if other not in reached]
            reached.extend(new)
            waiting.extend(new)
        return [other for other in self._entries if other in reached]

    def _is_odd(self, name, names):
        """Return True if a name has the entry 1 with an odd number of these names."""
        row = self._entries[name]
        return sum([row[other] for other in names]) % 2 == 1

    def _is_sum(self, name, names):
        """Return True if the rows of these names add up to the row of a name."""
        # The table is symmetric, so column by column is as good as row by row.
        return not any([self._is_odd(column, [name, *names]) for column in self._entries])

    def _is_probe(self, name, names, chosen):
        """Return True if only this one of the chosen names has an odd number of ones with these names."""
        return all([self._is_odd(other, names) == (other == name) for other in chosen])

    def _blocker(self, op):
        """Return the first of what keeps an operation from being applicable, or None."""
        kind, *names = op
        inverted = [name for name in names if self._entries[name][name] == 1]
        if kind == "flip":
            return ("direct", names[0]) if len(inverted) == 0 else None
        if len(inverted) > 0:
            return ("inverted", inverted[0])
        if kind == "swap":
            first, second = names
            return ("uncrossed", first, second) if self._entries[first][second] == 0 else None
        neighbors = self.neighbors(names[0])
        return ("crossed", names[0], neighbors[0]) if len(neighbors) > 0 else None

    def _entry_after(self, op, one, other):
        """Return the entry of two names that remain after an applicable operation."""
        entry = self._entries[one][other]
        if op[0] == "loop":
            return entry
        row = self._entries[op[1]]
        if op[0] == "flip":
            return entry ^ (row[one] & row[other])
        second = self._entries[op[2]]
        return entry ^ (row[one] & second[other]) ^ (second[one] & row[other])

    def __len__(self):
        return len(self._entries)

    def __eq__(self, other):
        return isinstance(other, CrossingTable) and self._entries == other._entries

    def __str__(self):
        return "\n".join([f"{name} {_digits(row)}" for name, row in zip(self.names(), self.rows())])

    def __repr__(self):
        return f"CrossingTable({len(self._entries)})"


def crossing_table(strip):
    """Return the crossing table of a strip."""
    check_strip(strip)
    names = strip.names()
    return CrossingTable(names, [[_strip_entry(strip, one, other) for other in names] for one in names])


def ring_count_by_rank(strip, names):
    """Return the number of rings of a strip joined at these names, without joining it."""
    table = crossing_table(strip).subtable(names)
    return len(table) - table.rank()


def _are_entries(rows, total):
    """Return True if a value is a symmetric square matrix of so many rows of integers 0 and 1."""
    if not _has_length(rows, total) or not all([_has_length(row, total) for row in rows]):
        return False
    if not all([is_integer(entry, 0, 1) for row in rows for entry in row]):
        return False
    return all([rows[i][j] == rows[j][i] for i in range(total) for j in range(i)])


def _has_length(value, total):
    return isinstance(value, (list, tuple)) and len(value) == total


def _is_selection(value, names):
    """Return True if a value is a list of some of these names, each once."""
    return isinstance(value, list) and is_name_list(value) and all([name in names for name in value])


def _has_selections(value, keys, names):
    """Return True if a value is a dict that leads from these keys alone to lists of these names."""
    if not isinstance(value, dict) or len(value) != len(keys):
        return False
    return all([key in value and _is_selection(value[key], names) for key in keys])


def _strip_entry(strip, one, other):
    """Return the entry of two names in the crossing table of a strip."""
    if one == other:
        return 0 if strip.is_direct(one) else 1
    return 1 if strip.crosses(one, other) else 0


def _digits(row):
    return "".join([str(entry) for entry in row])
