"""What holds in every plan for told numbers: tight covers and settled nights (point 54)."""

from nightsoff.covers import Cover, ends_from
from nightsoff.errors import BadCover
from nightsoff.judge import excess_of, true_numbers


def tight_covers(house, told):
    """List the covers with the excess 0, in ascending order of their ends."""
    numbers = true_numbers(house, told)
    covers = [Cover(ends) for ends in _all_ends(house)]
    return [cover for cover in covers if excess_of(house, cover, numbers) == 0]


def settled(house, told, cover):
    """List for each person how many nights lie outside and inside of the cover.

    A third item says whether the person surely watches once in each stretch.
    """
    numbers = true_numbers(house, told)
    excess = excess_of(house, cover, numbers)
    if excess != 0:
        raise BadCover(("loose", excess))
    nights = []
    for person, number in enumerate(numbers):
        inside = min(number, ends_from(house, cover, person))
        every = number >= ends_from(house, cover, person)
        nights.append((number - inside, inside, every))
    return nights


def _all_ends(house):
    """List the ends of all covers that fit the house, in ascending order."""
    lists = [[]]
    for night in range(1, house.nights + 1):
        lists = lists + [ends + [night] for ends in lists
                         if not ends or night - ends[-1] > house.rest]
    return sorted(lists)
