"""Rows, strips and rings as text: writing, reading and completing it."""

from markersplice.checks import is_ring_list
from markersplice.errors import InvalidRow, InvalidText, InvalidWord
from markersplice.readings import check_reading
from markersplice.rows import check_row
from markersplice.strips import MOST_NAMES, Ring, Strip
from markersplice.wording import (
    RING_END, RING_START, is_marker_word, is_piece_word, ring_words, row_words, word_item,
)


def row_text(row):
    """Return the text of a row."""
    check_row(row)
    return " ".join(row_words(row))


def ring_text(row):
    """Return the text of this very reading of a ring."""
    check_reading(row)
    return " ".join(ring_words(row))


def parse_row(text):
    """Return the row that a text represents."""
    words = _words_of(text)
    _check_whole(_row_fault(words))
    return _items_of(words)


def parse_strip(text):
    """Return the strip that a text represents."""
    words = _words_of(text)
    _check_whole(_strip_fault(words))
    return Strip(_items_of(words))


def parse_ring(text):
    """Return the ring that a text represents by any of its readings."""
    words = _words_of(text)
    _check_whole(_ring_fault(words))
    return _ring_of(words)


def complete_strip(text):
    """Return a strip with as few words as possible that starts with those of a text, or None."""
    words = _words_of(text)
    if _invalid_in_strip(words) is not None:
        return None
    items = _items_of(words)
    if len(items) % 2 == 0:
        items.append("")
    for name in _single_names(words):
        items.extend([(name, True), ""])
    return Strip(items)


def parts_text(row, rings):
    """Return the text of a row and below it, in ascending order, the texts of rings."""
    lines = [row_text(row)]
    if not is_ring_list(rings):
        raise InvalidRow(rings)
    lines.extend(sorted([str(ring) for ring in rings]))
    return "\n".join(lines)


def parse_parts(text):
    """Return a tuple of the row and of the list of the rings that a text represents."""
    _check_text(text)
    lines = [line.split(" ") for line in text.split("\n")]
    for number, words in enumerate(lines):
        fault = _row_fault(words) if number == 0 else _ring_fault(words)
        if fault is not None:
            raise InvalidWord((number, fault))
    return (_items_of(lines[0]), [_ring_of(words) for words in lines[1:]])


def _check_text(text):
    if not isinstance(text, str):
        raise InvalidText(text)


def _words_of(text):
    _check_text(text)
    return text.split(" ")


def _check_whole(fault):
    """Raise the error of a text that has a fault at the index of this word."""
    if fault is not None:
        raise InvalidWord(fault)


def _items_of(words):
    return [word_item(word) for word in words]


def _ring_of(words):
    """Return the ring of words without a fault."""
    items = _items_of(words[1:-1])
    # A text begins with the marker with which a reading, as a list, ends.
    return Ring(items[1:] + items[:1])


def _row_fault(words):
    """Return the index of the word at which a row's text is wrong or ends too early, or None."""
    for index, word in enumerate(words):
        if not _fits_in_row(index, word):
            return index
    return len(words) if len(words) % 2 == 0 else None


def _fits_in_row(index, word):
    return is_piece_word(word) if index % 2 == 0 else is_marker_word(word)


def _strip_fault(words):
    """Return the index of the word at which a strip's text is wrong or ends too early, or None."""
    invalid = _invalid_in_strip(words)
    if invalid is not None:
        return invalid
    complete = len(words) % 2 == 1 and len(_single_names(words)) == 0
    return None if complete else len(words)


def _invalid_in_strip(words):
    """Return the index of the first word with which no strip's text can continue, or None."""
    counts = {}
    for index, word in enumerate(words):
        if not _fits_in_row(index, word):
            return index
        if index % 2 == 1:
            name = word[:-1]
            counts[name] = counts.get(name, 0) + 1
            if counts[name] > 2 or len(counts) > MOST_NAMES:
                return index
    return None


def _single_names(words):
    """Return the names, in order, of which a strip's valid words have one marker only."""
    names = [word[:-1] for word in words[1::2]]
    return [name for name in names if names.count(name) == 1]


def _ring_fault(words):
    """Return the index of the word at which a ring's text is wrong or ends too early, or None."""
    for index, word in enumerate(words):
        if not _fits_in_ring(words, index, word):
            return index
    return None if words[-1] == RING_END else len(words)


def _fits_in_ring(words, index, word):
    """Return True if a word can stand in a ring's text behind the words before it, which fit."""
    if index == 0:
        return word == RING_START
    before = words[index - 1]
    if before == RING_START:
        return is_piece_word(word) or is_marker_word(word)
    if before == RING_END:
        return False
    if is_marker_word(before):
        return is_piece_word(word)
    # Before a piece stands a marker, unless the piece is the whole ring.
    return word == RING_END or (index > 2 and is_marker_word(word))
