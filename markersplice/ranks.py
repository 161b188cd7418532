"""Which rows of zeros and ones are independent modulo 2, and how the others depend on them."""


def independence(rows):
    """Return two dicts that show which rows are independent of the rows before them.

    The first dict has one entry for each independent row. It leads from a column to the
    numbers of independent rows; in the sum of these, the entry of this column is 1, and the
    entries of all other columns that are keys are 0.
    The second dict leads from the number of each other row to the numbers of independent
    rows whose sum it is.
    """
    # Rows, and the selections of rows that were added, are integers here: bit k stands for
    # entry k and for row k. So one operation adds whole rows.
    basis = {}
    dependent = {}
    for number, row in enumerate(rows):
        rest, selection = _cleared(_bits_of(row), 0, basis)
        if rest == 0:
            dependent[number] = _numbers_in(selection)
            continue
        column = rest.bit_length() - 1
        added = {column: (rest, selection ^ (1 << number))}
        for other in list(basis):
            total, chosen = basis[other]
            basis[other] = _cleared(total, chosen, added)
        basis[column] = added[column]
    return ({column: _numbers_in(basis[column][1]) for column in basis}, dependent)


def _cleared(row, selection, basis):
    """Return a row and its selection after what clears the columns of a basis is added."""
    for column in basis:
        if (row >> column) & 1 == 1:
            total, chosen = basis[column]
            row, selection = row ^ total, selection ^ chosen
    return (row, selection)


def _bits_of(row):
    return sum([entry << column for column, entry in enumerate(row)])


def _numbers_in(selection):
    return [number for number in range(selection.bit_length()) if (selection >> number) & 1 == 1]
