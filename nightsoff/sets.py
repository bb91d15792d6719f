"""Sets of persons whose told numbers are too great (points 25 and 26)."""

from nightsoff.covers import ends_from
from nightsoff.firsts import most_of
from nightsoff.settle import settle
from nightsoff.tellings import told_numbers


def refusing_set(house, told):
    """List the persons of the refusing set, or return None if all is kept."""
    numbers = told_numbers(house, told)
    settlement = settle(house, numbers)
    if settlement.missing == 0:
        return None
    return [person for person, number in enumerate(numbers)
            if number > ends_from(house, settlement.cover, person)]


def set_by_set(house, told):
    """List the first set of persons that told more than its most, or None."""
    numbers = told_numbers(house, told)
    for number in range(1 << house.people):
        members = members_of(house, number)
        if sum([numbers[person] for person in members]) > most_of(house, members):
            return members
    return None


def members_of(house, number):
    """List the persons of the set that has this number (point 26)."""
    return [person for person in range(house.people) if number >> person & 1]
