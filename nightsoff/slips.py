"""Slips: told numbers that were misread or moved (point 35)."""

from nightsoff.bounds import Bounds
from nightsoff.judge import can_be_true
from nightsoff.tellings import LIMIT, told_numbers
from nightsoff.worlds import group_price, has_world


def one_slip(house, told):
    """List the persons whose number may have been misread, with the right one."""
    numbers = told_numbers(house, told)
    slips = []
    for person, number in enumerate(numbers):
        right = house.whole - sum(numbers) + number
        righted = numbers[:person] + [right] + numbers[person + 1:]
        if right != number and 0 <= right <= LIMIT and can_be_true(house, righted):
            slips.append((person, right))
    return slips


def two_slips(house, told):
    """List who may have given nights to whom, with the least and greatest count."""
    numbers = told_numbers(house, told)
    if sum(numbers) != house.whole:
        return []
    slips = []
    for giver, number in enumerate(numbers):
        for taker in range(house.people):
            # Nobody gives without having told a night.
            if giver != taker and number > 0:
                slips.extend(_moves(house, numbers, giver, taker))
    return slips


def _moves(house, numbers, giver, taker):
    """List the one slip of this pair, or nothing if no count belongs to it."""
    gives = numbers[giver]
    takes = numbers[taker]
    bounds = Bounds.exact(numbers).pinned(giver, 0, gives - 1).pinned(taker, takes + 1, takes + gives)
    if not has_world(house, bounds):
        return []
    # As the sum stays, the worlds are the numbers after such moves.
    most, _ = group_price(house, bounds, [giver])
    most_taken, _ = group_price(house, bounds, [taker])
    return [(giver, taker, gives - most, most_taken - takes)]
