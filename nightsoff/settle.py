"""Settling told numbers, and leading back (points 21 and 22)."""

from nightsoff.covers import Cover
from nightsoff.plans import Plan, free_people
from nightsoff.tellings import told_numbers


class Settlement:
    """What settling gives: a plan that may be short, and a cover."""

    def __init__(self, plan, strangers, unkept, cover):
        self.plan = plan
        self.strangers = tuple(strangers)
        self.unkept = tuple(unkept)
        self.missing = sum(unkept)
        self.cover = cover


def settle(house, told):
    """Take those with most nights left on each night in turn."""
    left = told_numbers(house, told)
    rows = []
    # What the people of each row had left, the night not yet taken off.
    left_before = []
    for want in house.wants:
        row = _taken(house, rows, want, left)
        left_before.append([left[person] for person in row])
        for person in row:
            left[person] -= 1
        rows.append(row)
    strangers = [want - len(row) for want, row in zip(house.wants, rows)]
    return Settlement(Plan(rows), strangers, left, _lead_back(house, left_before))


def _taken(house, rows, want, left):
    """List who watches on the night behind the given rows."""
    free = free_people(house, rows, len(rows) + 1)
    # Negative numbers, so that equal people stay in ascending order.
    ready = sorted([(-left[person], person) for person in free if left[person] > 0])
    return sorted([person for _, person in ready[:want]])


def _lead_back(house, left_before):
    """Make the cover of a settlement from the last night back to the first."""
    ends = []
    for night in range(house.nights, 0, -1):
        if ends and night >= ends[0] - house.rest:
            continue
        numbers = left_before[night - 1]
        full = len(numbers) == house.wants[night]
        if not full or any([number <= len(ends) for number in numbers]):
            ends.insert(0, night)
    return Cover(ends)
