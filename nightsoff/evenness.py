"""The evenest telling of a house (point 52)."""

from nightsoff.cheapest import cheapest
from nightsoff.covers import ends_from, most_stretches
from nightsoff.helpers import check_watched
from nightsoff.settle import settle
from nightsoff.tellings import Telling


class Evenest:
    """The evenest telling, with levels to show that it is."""

    def __init__(self, telling, levels):
        self.telling = telling
        self.levels = tuple(levels)


def evenest(house):
    """Return the telling that is no steeper than every other one."""
    check_watched(house)
    numbers = _even_numbers(house)
    heights = range(min(numbers, default=0) + 1, max(numbers, default=0))
    return Evenest(Telling(numbers), [_level(house, numbers, height) for height in heights])


def _even_numbers(house):
    """Raise the person with the least number, as long as somebody can be raised."""
    numbers = [0] * house.people
    # Who cannot be raised once cannot be raised later either.
    raisable = list(range(house.people))
    while raisable:
        _, person = min([(numbers[person], person) for person in raisable])
        trial = list(numbers)
        trial[person] += 1
        if settle(house, trial).missing == 0:
            numbers = trial
        else:
            raisable.remove(person)
    return numbers


def _level(house, numbers, height):
    """Show that the people below that height cannot keep more together."""
    counts = list(range(most_stretches(house) + 1))
    prices = [[_price(number, height, count) for count in counts] for number in numbers]
    _, cover = cheapest(house, prices)
    persons = [person for person, number in enumerate(numbers)
               if number < height
               or (number == height and ends_from(house, cover, person) < height)]
    return (height, persons, cover)


def _price(number, height, count):
    if number < height:
        return count - number
    if number == height:
        return min(0, count - height)
    return 0
