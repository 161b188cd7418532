"""What a strip becomes when it is joined at some of its names, without applying operations."""

from markersplice.checks import check_known, check_names, check_strip, is_ring_list
from markersplice.errors import DuplicateName, InvalidNumber, UnknownName, UnknownPart, Unreachable
from markersplice.rows import is_integer, is_row
from markersplice.strips import Ring, Strip
from markersplice.walks import ends_before, links_of, read_ring, read_row, ring_walks, walk_from


class JoinedStrip:
    """A strip joined at some of its names: part 0 is the remaining strip, the other parts are rings."""

    def __init__(self, strip, names):
        check_strip(strip)
        check_names(names)
        check_known(names, strip.names())
        self._strip = strip
        self._names = [name for name in strip.names() if name in names]
        self._markers = list(enumerate(strip.row()[1::2]))
        self._links = links_of(self._markers, self._names)
        walks = [walk_from(0, self._links)]
        self._walks = walks + ring_walks(walks, self._links, len(strip.pieces()))
        self._parts = {end // 2: part for part, ends in enumerate(self._walks) for end in ends}

    def strip(self):
        """Return the original strip."""
        return self._strip

    def names(self):
        """Return the joined names, in the order of the strip."""
        return list(self._names)

    def path(self, part):
        """Return the pieces of a part in reading order, each with True if it is read flipped."""
        if not is_integer(part, 0, len(self._walks) - 1):
            raise UnknownPart(part)
        return [(end // 2, end % 2 == 1) for end in self._walks[part]]

    def part_of(self, piece):
        """Return the number of the part that contains a piece."""
        if not is_integer(piece, 0, len(self._strip.pieces()) - 1):
            raise InvalidNumber(piece)
        return self._parts[piece]

    def row(self):
        """Return the row of part 0."""
        return read_row(self._walks[0], self._links, self._strip.pieces())

    def rings(self):
        """Return the rings, in the order of their parts."""
        pieces = self._strip.pieces()
        return [Ring(read_ring(ends, self._links, pieces)) for ends in self._walks[1:]]

    def remaining(self):
        """Return the remaining strip, if no ring has a marker."""
        for part, ring in enumerate(self.rings(), start=1):
            if len(ring) > 0:
                raise Unreachable(part, ring.names()[0])
        return Strip(self.row())

    def edge(self, name):
        """Return the numbers of the parts that contain the two joints of a joined name."""
        self._check_joined(name)
        first, second = ends_before(self._markers, name)
        return (self._parts[first // 2], self._parts[second // 2])

    def with_name(self, name):
        """Return the same strip joined at one name more."""
        if name not in self._strip.names():
            raise UnknownName(name)
        if name in self._names:
            raise DuplicateName(name)
        return JoinedStrip(self._strip, [*self._names, name])

    def without_name(self, name):
        """Return the same strip joined at one name fewer."""
        self._check_joined(name)
        return JoinedStrip(self._strip, [other for other in self._names if other != name])

    def _check_joined(self, name):
        if name not in self._names:
            raise UnknownName(name)

    def __len__(self):
        return len(self._walks[1:])

    def __eq__(self, other):
        return isinstance(other, JoinedStrip) and self._strip == other._strip and self._names == other._names

    def __str__(self):
        return " ".join([str(self._strip), "joined at", *self._names])

    def __repr__(self):
        return f"JoinedStrip({str(self)})"


def join_all(strip):
    """Return the strip joined at all its names."""
    check_strip(strip)
    return JoinedStrip(strip, strip.names())


def edges(strip):
    """Return a dict from each name to its edge in the strip joined at all names."""
    joined = join_all(strip)
    return {name: joined.edge(name) for name in joined.names()}


def is_result(strip, names, value):
    """Return True if a value holds the row and, in any order, the rings of a strip joined at names."""
    joined = JoinedStrip(strip, names)
    if not isinstance(value, tuple) or len(value) != 2:
        return False
    row, rings = value
    # Python takes 1 for True, so a list that equals the row need not be a row.
    if not is_row(row) or list(row) != joined.row() or not is_ring_list(rings):
        return False
    return sorted([str(ring) for ring in rings]) == sorted([str(ring) for ring in joined.rings()])
