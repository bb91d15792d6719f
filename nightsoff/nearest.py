"""The numbers nearest to told ones that can be true (point 49)."""

from nightsoff.helpers import check_watched
from nightsoff.settle import settle
from nightsoff.tellings import told_numbers
from nightsoff.worlds import raise_in_order


class Nearest:
    """Nearest numbers and their distance, with a cover to show it."""

    def __init__(self, distance, numbers, cover):
        self.distance = distance
        self.numbers = numbers
        self.cover = cover


def nearest(house, told):
    """Return the nearest numbers of all that can be true."""
    numbers = told_numbers(house, told)
    check_watched(house)
    settlement = settle(house, numbers)
    kept = [number - unkept for number, unkept in zip(numbers, settlement.unkept)]
    # Nobody can keep more nights than there are.
    highs = [house.nights] * house.people
    found = raise_in_order(house, kept, highs, list(range(house.people)))
    distance = 2 * settlement.missing + house.whole - sum(numbers)
    return Nearest(distance, found, settlement.cover)
