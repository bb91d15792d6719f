"""All tellings of a house, in ascending order (point 50)."""

from nightsoff.bounds import Bounds
from nightsoff.compare import can_be_watched
from nightsoff.errors import BadNumber
from nightsoff.judge import true_numbers
from nightsoff.tellings import Telling
from nightsoff.worlds import group_range


def walk_tellings(house):
    """Yield each telling of the house once."""
    if can_be_watched(house):
        for entries in _lists_from(house, []):
            yield Telling(entries)


def count_tellings(house):
    return len(list(walk_tellings(house)))


def nth_telling(house, index):
    """Return the telling before which there are `index` others."""
    for place, telling in enumerate(walk_tellings(house)):
        if place == index:
            return telling
    raise BadNumber(0, index)


def rank_telling(house, told):
    """Return the number of tellings before the told one."""
    wanted = Telling(true_numbers(house, told))
    return len([telling for telling in walk_tellings(house) if telling < wanted])


def _lists_from(house, start):
    """Yield the lists of all tellings that begin with the given numbers."""
    if len(start) == house.people:
        yield start
    else:
        for number in _next_numbers(house, start):
            longer = start + [number]
            yield from _lists_from(house, longer)


def _next_numbers(house, start):
    """List the numbers of the next person in tellings that begin like this."""
    person = len(start)
    left = house.people - person
    # The last person has told what the others left of the whole.
    if left == 1:
        return [house.whole - sum(start)]
    bounds = Bounds(start + [0] * left, start + [house.nights] * left)
    least, most = group_range(house, bounds, [person])
    return list(range(least, most + 1))
