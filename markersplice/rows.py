"""Names, pieces, markers and rows: telling, flipping and cleaning them."""

from markersplice.errors import InvalidMarker, InvalidNumbers, InvalidPiece, InvalidRow

NAME_LETTERS = 4


def is_integer(value, low, high):
    """Return True if a value is an integer from low to high, both included."""
    # Python counts True and False among the integers, this program does not.
    if isinstance(value, bool) or not isinstance(value, int):
        return False
    return low <= value <= high


def is_name(value):
    """Return True if a value is one to four letters from a to z."""
    return is_piece(value) and value.islower() and len(value) <= NAME_LETTERS


def is_piece(value):
    """Return True if a value is a string of letters from a to z and A to Z."""
    if not isinstance(value, str):
        return False
    return len(value) == 0 or (value.isascii() and value.isalpha())


def is_marker(value):
    """Return True if a value is a tuple of a name and of True or False."""
    if not isinstance(value, tuple) or len(value) != 2:
        return False
    return is_name(value[0]) and isinstance(value[1], bool)


def is_row(value):
    """Return True if a value is a row, as a list or as a tuple."""
    return has_row_length(value) and first_misfit(value) is None


def has_row_length(value):
    """Return True if a value is a list or a tuple with as many items as a row can have."""
    return isinstance(value, (list, tuple)) and len(value) % 2 == 1


def first_misfit(items):
    """Return the index of the first item that cannot stand at its place, or None.

    Pieces stand at the even places and markers at the odd ones.
    """
    for index, item in enumerate(items):
        fits = is_piece(item) if index % 2 == 0 else is_marker(item)
        if not fits:
            return index
    return None


def check_items(items):
    """Raise the error of the first item that cannot stand at its place."""
    index = first_misfit(items)
    if index is None:
        return
    if index % 2 == 0:
        raise InvalidPiece(items[index])
    raise InvalidMarker(items[index])


def check_row(row):
    """Raise the error of a value that is not a row."""
    if not has_row_length(row):
        raise InvalidRow(row)
    check_items(row)


def flip_piece(piece):
    """Return a piece with its letters in reverse order and in the other case."""
    if not is_piece(piece):
        raise InvalidPiece(piece)
    return piece[::-1].swapcase()


def flip_marker(marker):
    """Return a marker with the other value of upright."""
    if not is_marker(marker):
        raise InvalidMarker(marker)
    name, upright = marker
    return (name, not upright)


def flip_row(row):
    """Return, as a list, a row with its items flipped and in reverse order."""
    check_row(row)
    flipped = []
    for item in row[::-1]:
        flipped.append(flip_piece(item) if isinstance(item, str) else flip_marker(item))
    return flipped


def concatenated(rows):
    """Return rows one after another as one row, with the pieces where two of them meet merged."""
    whole = [""]
    for row in rows:
        whole[-1] = whole[-1] + row[0]
        whole.extend(row[1:])
    return whole


def places_by_name(row):
    """Return a dict from each name of a row, by first marker, to the list of its marker numbers."""
    places = {}
    for number, (name, _) in enumerate(row[1::2]):
        places.setdefault(name, []).append(number)
    return places


def without_markers(row, numbers):
    """Return a row, as a list, without the markers that have these numbers."""
    check_row(row)
    if not _are_marker_numbers(numbers, len(row) // 2):
        raise InvalidNumbers(numbers)
    kept = [True] * (len(row) // 2)
    for number in numbers:
        kept[number] = False
    return _merged(row, kept)


def clean_row(row):
    """Return a row, as a list, in which each name has its first two markers, or none if it has one."""
    check_row(row)
    places = places_by_name(row)
    unusable = []
    for name in places:
        numbers = places[name]
        unusable.extend(numbers if len(numbers) == 1 else numbers[2:])
    return without_markers(row, unusable)


def _are_marker_numbers(value, total):
    """Return True if a value is a list or tuple of numbers of total markers."""
    if not isinstance(value, (list, tuple)):
        return False
    return all([is_integer(number, 0, total - 1) for number in value])


def _merged(row, kept):
    """Return the row without the markers that are not kept, the pieces around them merged."""
    merged = []
    # Neighbors are gathered and put together once, so that long rows stay quick.
    neighbors = [row[0]]
    for number, keep in enumerate(kept):
        if keep:
            merged.append("".join(neighbors))
            merged.append(row[2 * number + 1])
            neighbors = []
        neighbors.append(row[2 * number + 2])
    merged.append("".join(neighbors))
    return merged
