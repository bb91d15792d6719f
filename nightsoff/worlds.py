"""Worlds: numbers that lie in bounds and can be true (points 29 to 31)."""

from nightsoff.cheapest import cheapest, high_prices, low_prices
from nightsoff.checks import check_people
from nightsoff.covers import most_stretches
from nightsoff.errors import NoWorld, WrongLength
from nightsoff.orders import check_order


def has_world(house, bounds):
    """Say whether some numbers in the bounds can be true."""
    check_bounds(house, bounds)
    return reason_against(house, bounds) is None


def find_world(house, bounds):
    """Return the greatest of all worlds in lexicographic order."""
    return raised(house, bounds, list(range(house.people)))


def raised(house, bounds, order):
    """Return the world that comes from raising the persons in that order."""
    check_bounds(house, bounds)
    check_order(house, order)
    check_world(house, bounds)
    return raise_in_order(house, bounds.lows, bounds.highs, order)


def group_most(house, bounds, people):
    """Return the most of a group, a world in which it has it, and a cover."""
    check_bounds(house, bounds)
    check_people(house, people)
    check_world(house, bounds)
    number, cover = group_price(house, bounds, people)
    order = sorted(people) + _others(house, people)
    return (number, raise_in_order(house, bounds.lows, bounds.highs, order), cover)


def group_least(house, bounds, people):
    """Return the least of a group, a world in which it has it, and a cover."""
    check_bounds(house, bounds)
    check_people(house, people)
    number, world, cover = group_most(house, bounds, _others(house, people))
    return (house.whole - number, world, cover)


def check_bounds(house, bounds):
    if len(bounds) != house.people:
        raise WrongLength(len(bounds), house.people)


def reason_against(house, bounds):
    """Return the first reason against a world, its person and its cover, or None."""
    crossed = bounds.crossed()
    if crossed:
        return ("crossed", crossed[0], None)
    price, cover = cheapest(house, low_prices(house, bounds.lows))
    if price < 0:
        return ("low", None, cover)
    price, cover = cheapest(house, high_prices(house, bounds.highs))
    if price < house.whole:
        return ("high", None, cover)
    return None


def check_world(house, bounds):
    reason = reason_against(house, bounds)
    if reason is not None:
        raise NoWorld(reason[0], reason[1], reason[2])


def group_price(house, bounds, people):
    """Return the most of a group where there is a world, and its cover."""
    lows = low_prices(house, bounds.lows)
    highs = high_prices(house, bounds.highs)
    return cheapest(house, [highs[person] if person in people else lows[person]
                            for person in range(house.people)])


def group_range(house, bounds, people):
    """Return the least and the most of a group where there is a world."""
    most, _ = group_price(house, bounds, people)
    most_of_others, _ = group_price(house, bounds, _others(house, people))
    return (house.whole - most_of_others, most)


def raise_in_order(house, lows, highs, order):
    """Raise numbers that can be kept, person by person, as far as they can be."""
    numbers = list(lows)
    for person in order:
        numbers[person] = min(highs[person], _greatest_kept(house, numbers, person))
    return numbers


def _greatest_kept(house, numbers, person):
    """Return the greatest number of the person with which all can be kept.

    No cover may have an excess above 0 (point 23). As none has one before the
    person is raised, each of them leaves the person its number of ends and what
    the others do not use of the nights outside.
    """
    prices = low_prices(house, numbers)
    prices[person] = list(range(most_stretches(house) + 1))
    price, _ = cheapest(house, prices)
    return price


def _others(house, people):
    return [person for person in range(house.people) if person not in people]
