"""Walks from piece end to piece end.

Pieces are numbered from 0, and marker k stands between the pieces k and k + 1. Piece k has
the left end 2 * k and the right end 2 * k + 1. A dict of links leads from an end to a tuple
of the end that is next to it and of the marker in between, as it is read on the way, or None
if the two ends were joined. What is entered at one end is left at its other end, `end ^ 1`.
"""

from markersplice.rows import flip_marker, flip_piece


def end_before(number, upright):
    """Return the end before the marker with this number."""
    return 2 * number + 1 if upright else 2 * number + 2


def end_after(number, upright):
    """Return the end after the marker with this number."""
    return end_before(number, not upright)


def marker_links(number, marker):
    """Return the links between the two ends beside a marker that stays."""
    left, right = 2 * number + 1, 2 * number + 2
    return {left: (right, marker), right: (left, flip_marker(marker))}


def joint_links(one, other):
    """Return the links between two ends that are joined."""
    return {one: (other, None), other: (one, None)}


def ends_before(markers, name):
    """Return the ends before the markers of a name, out of tuples of a number and a marker."""
    return [end_before(number, upright) for number, (other, upright) in markers if other == name]


def ends_after(markers, name):
    """Return the ends after the markers of a name, out of tuples of a number and a marker."""
    return [end_after(number, upright) for number, (other, upright) in markers if other == name]


def links_of(markers, names):
    """Return all links if markers, as tuples of a number and a marker, are joined at these names."""
    links = {}
    for number, marker in markers:
        if marker[0] not in names:
            links.update(marker_links(number, marker))
    for name in names:
        # The end before one marker is joined to the end after the other one.
        before = ends_before(markers, name)
        after = ends_after(markers, name)
        links.update(joint_links(before[0], after[1]))
        links.update(joint_links(before[1], after[0]))
    return links


def walk_from(start, links):
    """Return the ends at which pieces are entered, from this one on, until there is no new one."""
    ends = [start]
    link = links.get(start ^ 1)
    while link is not None and link[0] != start:
        ends.append(link[0])
        link = links.get(link[0] ^ 1)
    return ends


def ring_walks(walks, links, total):
    """Return walks along the rings, to which all of so many pieces belong that these walks do not reach."""
    reached = [end // 2 for ends in walks for end in ends]
    rings = []
    for piece in range(total):
        if piece not in reached:
            # A marker before this piece would lead to a lower piece, so the walk begins at a joint.
            rings.append(walk_from(2 * piece, links))
            reached.extend([end // 2 for end in rings[-1]])
    return rings


def read_row(ends, links, pieces):
    """Return what is read on a walk, as a row."""
    row = [_read_piece(ends[0], pieces)]
    for last, end in zip(ends, ends[1:]):
        _, marker = links[last ^ 1]
        piece = _read_piece(end, pieces)
        if marker is None:
            row[-1] = row[-1] + piece
        else:
            row.extend([marker, piece])
    return row


def read_ring(ends, links, pieces):
    """Return what is read on a closed walk that begins at a joint, as a reading of a ring."""
    row = read_row(ends, links, pieces)
    if len(row) == 1:
        return row
    return [row[-1] + row[0]] + row[1:-1]


def _read_piece(end, pieces):
    piece = pieces[end // 2]
    return piece if end % 2 == 0 else flip_piece(piece)
