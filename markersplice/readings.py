"""Ring readings: their form, their turns, and the one that stands for the ring."""

from markersplice.errors import InvalidRow
from markersplice.rows import check_items, flip_marker, flip_piece, flip_row
from markersplice.wording import item_word, ring_words


def check_reading(row):
    """Raise the error of a value that is not a reading of a ring."""
    if not isinstance(row, (list, tuple)):
        raise InvalidRow(row)
    if len(row) != 1 and (len(row) == 0 or len(row) % 2 == 1):
        raise InvalidRow(row)
    check_items(row)


def canonical_reading(row):
    """Return the reading with the smallest text of the ring that a list describes."""
    if len(row) == 1:
        piece = row[0]
        return [min([_least_turn_of_piece(piece), _least_turn_of_piece(flip_piece(piece))])]
    readings = [_least_turn(row), _least_turn(_flip_reading(row))]
    return min(readings, key=lambda reading: " ".join(ring_words(reading)))


def _flip_reading(row):
    """Return a reading, with markers, of the same ring in the other direction."""
    return flip_row(row[:-1]) + [flip_marker(row[-1])]


def _least_turn_of_piece(piece):
    """Return the smallest piece that starts at a letter of a closed piece."""
    start = _least_start(piece)
    return piece[start:] + piece[:start]


def _least_turn(row):
    """Return the reading with the smallest text, in this direction, of a ring with markers."""
    # The text of a reading is a sequence of markers, each with the piece behind it;
    # the marker before the first piece is the last item. A blank ends each word and
    # sorts before all that a word can contain, so these pairs compare as the texts do.
    pairs = [f"{item_word(row[at - 1])} {item_word(row[at])} " for at in range(0, len(row), 2)]
    start = 2 * _least_start(pairs)
    return row[start:] + row[:start]


def _least_start(symbols):
    """Return an index from which a closed sequence of strings reads smallest.

    Two starts are compared symbol by symbol. Where they first differ, the larger
    one loses, and with it every start that it has passed, so the work is linear.
    """
    total = len(symbols)
    one, other, same = 0, 1, 0
    while one < total and other < total and same < total:
        left = symbols[(one + same) % total]
        right = symbols[(other + same) % total]
        if left == right:
            same += 1
            continue
        if left > right:
            one += same + 1
        else:
            other += same + 1
        if one == other:
            other += 1
        same = 0
    return min(one, other)
