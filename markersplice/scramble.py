"""Scrambling segments into a strip, finding them again, and inserting markers that disappear again."""

from markersplice.checks import check_strip, is_name_list
from markersplice.errors import (
    DuplicateName, InvalidList, InvalidMarker, InvalidNames, InvalidPiece, InvalidPosition, InvalidStrip, TooMany,
)
from markersplice.rows import concatenated, flip_piece, flip_row, is_integer, is_marker, is_piece
from markersplice.strips import MOST_NAMES, Ring, Strip

# One more than a strip has names, as there is a name between any two neighbors.
MOST_SEGMENTS = 13


def scramble(segments, order, flips, spacers, names):
    """Return a strip that contains segments in another order, in which markers tell how they belong together."""
    _check_scramble(segments, order, flips, spacers, names)
    rows = [[spacers[0]]]
    for number, spacer in zip(order, spacers[1:]):
        block = _block(segments, names, number)
        rows.extend([flip_row(block) if flips[number] else block, [spacer]])
    return Strip(concatenated(rows))


def contains(part, piece):
    """Return True if a piece occurs in a strip or a ring."""
    if not isinstance(part, (Strip, Ring)):
        raise InvalidStrip(part)
    _check_piece(piece)
    texts = part.row()[::2]
    if isinstance(part, Ring) and len(part) == 0:
        # Twice the reading holds all that starts in it, but only so much as the ring has letters.
        texts = [texts[0] + texts[0]] if len(piece) <= len(texts[0]) else []
    return any([piece in text or flip_piece(piece) in text for text in texts])


def insert_loop(strip, name, positions, *, piece="", upright=True):
    """Return a strip with a piece between two new markers, which a loop cuts out again."""
    marker = (name, upright)
    _check_insertion(strip, [marker], [name], positions, 1)
    _check_piece(piece)
    before, after = _cut(strip, positions)
    return Strip(concatenated([before, _alone(marker), [piece], _alone(marker), after]))


def insert_flip(strip, name, positions, *, upright=True):
    """Return a strip with a section flipped between two new markers, which a flip restores."""
    _check_insertion(strip, [(name, upright)], [name], positions, 2)
    before, section, after = _cut(strip, positions)
    first, second = _alone((name, upright)), _alone((name, not upright))
    return Strip(concatenated([before, first, flip_row(section), second, after]))


def insert_swap(strip, one, other, positions, *, orientations=(True, True)):
    """Return a strip with two sections exchanged between four new markers, which a swap restores."""
    check_strip(strip)
    if not isinstance(orientations, (list, tuple)) or len(orientations) != 2:
        raise InvalidMarker(orientations)
    markers = [(one, orientations[0]), (other, orientations[1])]
    _check_insertion(strip, markers, [one, other], positions, 4)
    before, left, middle, right, after = _cut(strip, positions)
    first, second = _alone(markers[0]), _alone(markers[1])
    return Strip(concatenated([before, first, right, second, middle, first, left, second, after]))


def _check_scramble(segments, order, flips, spacers, names):
    """Raise the first error of the arguments of scramble."""
    if not isinstance(segments, (list, tuple)) or not 1 <= len(segments) <= MOST_SEGMENTS:
        raise InvalidList(segments)
    _check_pieces(segments)
    total = len(segments)
    if not _has_length(order, total) or not all([is_integer(item, 0, total - 1) for item in order]):
        raise InvalidList(order)
    if len(set(order)) != total:
        raise InvalidList(order)
    if not _has_length(flips, total) or not all([isinstance(item, bool) for item in flips]):
        raise InvalidList(flips)
    if not _has_length(spacers, total + 1):
        raise InvalidList(spacers)
    _check_pieces(spacers)
    if not is_name_list(names) or len(names) != total - 1:
        raise InvalidNames(names)


def _check_pieces(items):
    """Raise the error of the first item that is not a piece."""
    for item in items:
        _check_piece(item)


def _check_piece(value):
    if not is_piece(value):
        raise InvalidPiece(value)


def _has_length(value, total):
    return isinstance(value, (list, tuple)) and len(value) == total


def _block(segments, names, number):
    """Return the row of a segment with the markers of the names before and behind it."""
    row = [segments[number]]
    if number > 0:
        row = concatenated([_alone((names[number - 1], True)), row])
    if number < len(names):
        row = concatenated([row, _alone((names[number], True))])
    return row


def _alone(marker):
    """Return the row of just one marker."""
    return ["", marker, ""]


def _check_insertion(strip, markers, names, positions, total):
    """Raise the first error of new markers with these names at so many positions in a strip."""
    check_strip(strip)
    for marker in markers:
        if not is_marker(marker):
            raise InvalidMarker(marker)
    used = strip.names()
    for name in names:
        if name in used:
            raise DuplicateName(name)
        used.append(name)
    if len(used) > MOST_NAMES:
        raise TooMany(len(used))
    if not _has_length(positions, total):
        raise InvalidPosition(positions)
    last = (0, 0)
    for position in positions:
        if not _is_position(position, strip.pieces()) or position < last:
            raise InvalidPosition(position)
        last = position


def _is_position(value, pieces):
    """Return True if a value is the number of one of these pieces, with a number of letters of it."""
    if not isinstance(value, tuple) or len(value) != 2:
        return False
    number, offset = value
    return is_integer(number, 0, len(pieces) - 1) and is_integer(offset, 0, len(pieces[number]))


def _cut(strip, positions):
    """Return the rows into which a strip is cut at positions in ascending order."""
    pieces = strip.pieces()
    end = (len(pieces) - 1, len(pieces[-1]))
    cuts = [(0, 0), *positions, end]
    return [_between(strip.row(), cuts[index], cuts[index + 1]) for index in range(len(cuts) - 1)]


def _between(row, start, stop):
    """Return the row between two positions."""
    first, skipped = start
    last, kept = stop
    if first == last:
        return [row[2 * first][skipped:kept]]
    return [row[2 * first][skipped:], *row[2 * first + 1:2 * last], row[2 * last][:kept]]
