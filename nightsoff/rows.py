"""Falling rows: what houses with everybody there from night 1 allow (points 36 to 38)."""

from nightsoff.checks import MOST_PEOPLE, check_count, check_numbers, check_rest
from nightsoff.errors import NotFalling
from nightsoff.firsts import choose_first
from nightsoff.tellings import LIMIT, greatest_first


def turned(row):
    """List how many numbers of the row are at least 1, at least 2 and so on."""
    check_row(row)
    return [len([number for number in row if number >= least])
            for least in range(1, max(row, default=0) + 1)]


def first_row(run, rest):
    """List how many watches one person more adds to the most of all."""
    check_rest(rest)
    mosts = [0]
    while mosts[-1] < abs(run):
        mosts.append(sum(choose_first(run, rest, [len(mosts)] * len(run))))
    return steps_up(mosts)


def plain_row(run, rest):
    """List how many wants one stretch more adds to those inside of stretches."""
    check_rest(rest)
    # For the nights up to each night: the most inside of exactly w stretches.
    inside = [[0]]
    for night in range(1, len(run) + 1):
        before = max(0, night - rest - 1)
        stretch = sum(run.numbers[before:night])
        ended = [0] + [most + stretch for most in inside[before]]
        # Without an end on this night there may be one stretch less.
        inside.append([max(one, two) for one, two in zip(ended, inside[night - 1] + [0])])
    return steps_up(inside[-1])


def row_allows(row, numbers):
    """Say whether a first row allows these numbers."""
    return row_witness(row, numbers) is None


def row_witness(row, numbers):
    """Return why a first row does not allow these numbers, or None if it does."""
    check_row(row)
    check_count(len(numbers), MOST_PEOPLE)
    check_numbers(numbers, LIMIT)
    if sum(numbers) != sum(row):
        return ("sum", sum(numbers), sum(row))
    order = greatest_first(numbers)
    for count in range(1, len(order) + 1):
        persons = order[:count]
        if sum([numbers[person] for person in persons]) > sum(row[:count]):
            return ("most", count, sorted(persons))
    return None


def check_row(row):
    for place, number in enumerate(row):
        if number < 1 or (place > 0 and number > row[place - 1]):
            raise NotFalling(place)


def steps_up(sums):
    """List the differences of neighbours as long as they are positive."""
    # They fall, so that no positive one stands behind another one.
    return [after - before for before, after in zip(sums, sums[1:]) if after > before]
