"""Plans in which people watch one after another (point 20)."""

from nightsoff.checks import check_people
from nightsoff.errors import WrongLength
from nightsoff.firsts import nights_with_room
from nightsoff.plans import Plan, counts_of


def check_order(house, order):
    check_people(house, order)
    if len(order) != house.people:
        raise WrongLength(len(order), house.people)


def one_after_another(house, order):
    """Return the plan in which each person watches on the nights of the growth."""
    check_order(house, order)
    rows = [[] for _ in range(house.nights)]
    room = list(house.wants)
    for person in order:
        nights = nights_with_room(house, room, person)
        for night in nights:
            rows[night - 1].append(person)
            room[night - 1] -= 1
    return Plan([sorted(row) for row in rows])


def order_counts(house, order):
    """List the steepest counts of the order, by person."""
    return counts_of(house, one_after_another(house, order))
