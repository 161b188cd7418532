"""Walks from piece end to piece end.

Pieces are numbered from 0, and marker k stands between the pieces k and k + 1. Piece k has
the left end 2 * k and the right end 2 * k + 1. A dict of links leads from an end to a tuple
of the end that is next to it and of the marker in between, as it is read on the way, or None
if the two ends were joined. What is entered at one end is left at its other end, `end ^ 1`.
"""

from markersplice.rows import flip_marker, flip_piece


def end_before(number, upright):
    """Return the end before the marker with this number."""
    return 2 * number + 1 if upright else 2 * number + 2


def end_after(number, upright):
    """Return the end after the marker with this number."""
    return end_before(number, not upright)


def marker_links(number, marker):
    """Return the links between the two ends beside a marker that stays."""
    left, right = 2 * number + 1, 2 * number + 2
    return {left: (right, marker), right: (left, flip_marker(marker))}


def joint_links(one, other):
    """Return the links between two ends that are joined."""
    return {one: (other, None), other: (one, None)}


def walk_from(start, links):
    """Return the ends at which pieces are entered, from this one on, until there is no new one."""
    ends = [start]
    link = links.get(start ^ 1)
    while link is not None and link[0] != start:
        ends.append(link[0])
        link = links.get(link[0] ^ 1)
    return ends


def read_row(ends, links, pieces):
    """Return what is read on a walk, as a row."""
    row = [_read_piece(ends[0], pieces)]
    for last, end in zip(ends, ends[1:]):
        _, marker = links[last ^ 1]
        piece = _read_piece(end, pieces)
        if marker is None:
            row[-1] = row[-1] + piece
        else:
            row.extend([marker, piece])
    return row


def read_ring(ends, links, pieces):
    """Return what is read on a closed walk that begins at a joint, as a reading of a ring."""
    row = read_row(ends, links, pieces)
    if len(row) == 1:
        return row
    return [row[-1] + row[0]] + row[1:-1]


def _read_piece(end, pieces):
    piece = pieces[end // 2]
    return piece if end % 2 == 0 else flip_piece(piece)
