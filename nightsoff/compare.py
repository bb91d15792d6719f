"""Comparing houses by what they let be true (point 44)."""

from nightsoff.errors import WrongLength
from nightsoff.firsts import most_of
from nightsoff.orders import order_counts
from nightsoff.sets import members_of


def can_be_watched(house):
    """Say whether the people can keep all the watches that the nights want."""
    return most_of(house, list(range(house.people))) == house.whole


def compare(house, other):
    """Return numbers that only the other house lets be true, or None."""
    if other.people != house.people:
        raise WrongLength(other.people, house.people)
    if not can_be_watched(other):
        return None
    everybody = list(range(house.people))
    if other.whole != house.whole:
        return order_counts(other, everybody)
    for number in range(1 << house.people):
        members = members_of(house, number)
        if most_of(house, members) < most_of(other, members):
            others = [person for person in everybody if person not in members]
            return order_counts(other, members + others)
    return None
