"""Strips and rings. Their objects never change."""

from markersplice.errors import TooMany, UnknownName, Unpaired
from markersplice.readings import canonical_reading, check_reading
from markersplice.rows import check_row, flip_row, is_name, places_by_name
from markersplice.wording import ring_words, row_words

MOST_NAMES = 12


class Strip:
    """A row in which every name occurs exactly twice."""

    def __init__(self, row):
        check_row(row)
        places = places_by_name(row)
        for name in places:
            if len(places[name]) != 2:
                raise Unpaired(name)
        if len(places) > MOST_NAMES:
            raise TooMany(len(places))
        self._row = list(row)
        self._places = {name: tuple(places[name]) for name in places}

    def row(self):
        """Return the row."""
        return list(self._row)

    def names(self):
        """Return the names, ordered by first place."""
        return list(self._places)

    def pieces(self):
        """Return the pieces, in the order of the row."""
        return self._row[::2]

    def places(self, name):
        """Return the numbers of the two markers of a name."""
        self._check_name(name)
        return self._places[name]

    def orientations(self, name):
        """Return the two values of upright of a name, in the order of its places."""
        self._check_name(name)
        low, high = self._places[name]
        return (self._upright(low), self._upright(high))

    def is_direct(self, name):
        """Return True if both markers of a name have the same value of upright."""
        first, second = self.orientations(name)
        return first == second

    def crosses(self, one, other):
        """Return True if exactly one place of one name lies between the places of the other."""
        self._check_name(one)
        self._check_name(other)
        low, high = self._places[one]
        first, second = self._places[other]
        return (low < first < high) != (low < second < high)

    def names_between(self, name):
        """Return the names of the markers between the two places of a name."""
        self._check_name(name)
        low, high = self._places[name]
        return [self._row[2 * place + 1][0] for place in range(low + 1, high)]

    def flipped(self):
        """Return the flipped strip."""
        return Strip(flip_row(self._row))

    def _check_name(self, name):
        # What is no name may have no hash, so it is not looked up in the dict.
        if not is_name(name) or name not in self._places:
            raise UnknownName(name)

    def _upright(self, place):
        return self._row[2 * place + 1][1]

    def __len__(self):
        return len(self._places)

    def __eq__(self, other):
        return isinstance(other, Strip) and self._row == other._row

    def __str__(self):
        return " ".join(row_words(self._row))

    def __repr__(self):
        return f"Strip({str(self)})"


class Ring:
    """A closed strip, given by any of its readings."""

    def __init__(self, row):
        check_reading(row)
        # All readings of a ring have the same canonical one, so the ring keeps only that.
        self._row = canonical_reading(list(row))

    def row(self):
        """Return the canonical reading."""
        return list(self._row)

    def names(self):
        """Return the names of the markers, in the order of the canonical text."""
        markers = self._row[1::2]
        return [name for name, _ in markers[-1:] + markers[:-1]]

    def letter_count(self):
        """Return the number of letters of all pieces."""
        return sum([len(piece) for piece in self._row[::2]])

    def __len__(self):
        return len(self._row[1::2])

    def __eq__(self, other):
        return isinstance(other, Ring) and self._row == other._row

    def __str__(self):
        return " ".join(ring_words(self._row))

    def __repr__(self):
        return f"Ring({str(self)})"
