"""Counting the numbers that a first row allows (point 51)."""

from nightsoff.checks import check_not_negative
from nightsoff.rows import check_row


def row_count(row, people):
    """Return how many lists of that many numbers the first row allows."""
    check_row(row)
    check_not_negative(people)
    # Only the falling lists are built; each stands for all its orders.
    lists = [[]]
    for _ in range(people):
        lists = [start + [number] for start in lists for number in range(_room(row, start) + 1)]
    return sum([_orders(numbers) for numbers in lists if sum(numbers) == sum(row)])


def _room(row, start):
    """Return the greatest number that may stand behind the given ones."""
    return min(start[-1:] + [sum(row[:len(start) + 1]) - sum(start)])


def _orders(numbers):
    """Return in how many different orders the numbers can stand."""
    orders = 1
    for place, number in enumerate(numbers, start=1):
        orders = orders * place // numbers[:place].count(number)
    return orders
