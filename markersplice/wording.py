"""The words that write rows and ring readings as text. What they get is valid already."""

EMPTY_PIECE = "_"


def item_word(item):
    """Return the word that writes a piece or a marker."""
    if isinstance(item, str):
        return item if len(item) > 0 else EMPTY_PIECE
    name, upright = item
    return name + ("+" if upright else "-")


def row_words(row):
    """Return the list of the words that write a row."""
    return [item_word(item) for item in row]


def ring_words(row):
    """Return the list of the words that write a ring reading, its last marker first."""
    words = row_words(row)
    if len(words) > 1:
        words = words[-1:] + words[:-1]
    return ["(", *words, ")"]
