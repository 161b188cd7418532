"""The words that write rows and ring readings as text.

What the functions get that write words is valid already; those that read words check them.
"""

from markersplice.rows import is_name, is_piece

EMPTY_PIECE = "_"
RING_START = "("
RING_END = ")"
MOST_DIGITS = 30


def item_word(item):
    """Return the word that writes a piece or a marker."""
    if isinstance(item, str):
        return item if len(item) > 0 else EMPTY_PIECE
    name, upright = item
    return name + ("+" if upright else "-")


def row_words(row):
    """Return the list of the words that write a row."""
    return [item_word(item) for item in row]


def ring_words(row):
    """Return the list of the words that write a ring reading, its last marker first."""
    words = row_words(row)
    if len(words) > 1:
        words = words[-1:] + words[:-1]
    return [RING_START, *words, RING_END]


def is_piece_word(word):
    """Return True if a word writes a piece."""
    return word == EMPTY_PIECE or (len(word) > 0 and is_piece(word))


def is_marker_word(word):
    """Return True if a word writes a marker."""
    return word[-1:] in ("+", "-") and is_name(word[:-1])


def word_item(word):
    """Return the piece or the marker that a word writes."""
    if is_marker_word(word):
        return (word[:-1], word[-1] == "+")
    return "" if word == EMPTY_PIECE else word


def is_number_word(word):
    """Return True if a word writes a number in decimal digits without a leading zero."""
    if not word.isascii() or not word.isdigit() or len(word) > MOST_DIGITS:
        return False
    return word == "0" or word[0] != "0"
