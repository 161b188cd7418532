"""The strands and rings of several rows that are joined at some names."""

from markersplice.strips import Ring
from markersplice.walks import end_after, end_before, links_of, read_ring, read_row, ring_walks, walk_from


class Layout:
    """Rows, given as a dict from labels, joined at names that have two markers. It never changes.

    A piece is a tuple of the label of its row and of its number in it. Its parts, which are
    the strands and behind them the rings, are numbered from 0.
    """

    def __init__(self, rows, joined):
        self._pieces = [piece for row in rows.values() for piece in row[::2]]
        self._labels = [(label, number) for label in rows for number in range(len(rows[label][::2]))]
        self._markers = _markers_of(rows)
        self._links = links_of(self._markers, joined)
        self._strands = _strand_walks(_open_ends(rows), self._links)
        self._rings = ring_walks(self._strands, self._links, len(self._pieces))
        walks = self._strands + self._rings
        self._parts = {self._labels[end // 2]: part for part, ends in enumerate(walks) for end in ends}

    def strands(self):
        """Return the strands as tuples of their two ends and of the row between them."""
        return [(self._end(ends[0]), self._end(ends[-1] ^ 1), read_row(ends, self._links, self._pieces))
                for ends in self._strands]

    def rings(self):
        """Return the rings."""
        return [Ring(read_ring(ends, self._links, self._pieces)) for ends in self._rings]

    def part_of(self, piece):
        """Return the number of the part that contains a piece."""
        return self._parts[piece]

    def parts_beside(self, name):
        """Return the numbers of the parts that contain the pieces beside the markers of a name."""
        ends = []
        for number, (other, upright) in self._markers:
            if other == name:
                ends.extend([end_before(number, upright), end_after(number, upright)])
        return [self._parts[self._labels[end // 2]] for end in ends]

    def _end(self, end):
        """Return the tuple of a label and of 0 or 1 that stands for an end of a strand."""
        label, _ = self._labels[end // 2]
        return (label, end % 2)

    def __len__(self):
        return len(self._strands + self._rings)


def _markers_of(rows):
    """Return all markers, each with the number of the piece before it, counted through all rows."""
    markers = []
    start = 0
    for row in rows.values():
        markers.extend(list(enumerate(row[1::2], start=start)))
        start += len(row[::2])
    return markers


def _open_ends(rows):
    """Return the left end of the first and the right end of the last piece of each row."""
    ends = []
    start = 0
    for row in rows.values():
        total = len(row[::2])
        ends.extend([2 * start, 2 * (start + total) - 1])
        start += total
    return ends


def _strand_walks(open_ends, links):
    """Return the walks along the strands, each from the lesser of its two ends."""
    walks = []
    passed = []
    for end in open_ends:
        if end not in passed:
            walks.append(walk_from(end, links))
            passed.append(walks[-1][-1] ^ 1)
    return walks
