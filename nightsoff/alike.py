"""Comparing plain rows (points 42 and 43)."""

from nightsoff.errors import UnlikeSums
from nightsoff.rows import check_row, steps_up, turned


def lets_all(row, other):
    """Say whether a plain row lets all that the other one lets."""
    _check_rows(row, other)
    length = max(len(row), len(other))
    return all([one <= two for one, two in zip(_sums(row, length), _sums(other, length))])


def parting(row, other):
    """Return numbers that the other row lets and this one does not, or None."""
    if lets_all(row, other):
        return None
    return turned(other)


def both_rows(row, other):
    """Return the plain row that lets exactly what both rows let."""
    _check_rows(row, other)
    return turned(_lesser_row(turned(row), turned(other)))


def either_rows(row, other):
    """Return the plain row that lets all that one of the rows lets, and least more."""
    _check_rows(row, other)
    return _lesser_row(row, other)


def _check_rows(row, other):
    check_row(row)
    check_row(other)
    if sum(row) != sum(other):
        raise UnlikeSums(sum(row), sum(other))


def _lesser_row(row, other):
    """Return the row whose first numbers have the lesser of both sums."""
    length = max(len(row), len(other))
    return steps_up([min(one, two) for one, two in zip(_sums(row, length), _sums(other, length))])


def _sums(row, length):
    """List the sums of the first 0, 1 .. numbers of the row, up to that length."""
    return [sum(row[:count]) for count in range(length + 1)]
