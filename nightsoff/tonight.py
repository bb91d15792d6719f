"""Tonight: who may watch on the first night (points 60 to 62)."""

from nightsoff.checks import check_night, check_people
from nightsoff.cheapest import keep_least, low_prices, sums_by_coming
from nightsoff.errors import NoneLeft, TooEarly
from nightsoff.judge import true_numbers
from nightsoff.tellings import greatest_first, told_numbers


def after_tonight(house, told, people):
    """Return the house after tonight, and the numbers after these people watched."""
    numbers = _told_tonight(house, told)
    check_people(house, people)
    for person in people:
        if house.comings[person] != 1:
            raise TooEarly(1, person)
    for person in people:
        if numbers[person] == 0:
            raise NoneLeft(person)
        numbers[person] -= 1
    rested = min(house.rest + 1, house.nights)
    comings = [rested if person in people else max(1, coming - 1)
               for person, coming in enumerate(house.comings)]
    return (house.changed(wants=house.wants << 1, comings=comings), numbers)


def thresholds(house, told):
    """List for each level how many must watch tonight who told more than the level."""
    numbers = _told_tonight(house, told)
    true_numbers(house, numbers)
    return [max(0, house.wants[1] - slack) for slack in _slacks(house, numbers)]


def tonight_fault(house, told, people):
    """Return why these people are not right tonight, or None if they are."""
    levels = thresholds(house, told)
    return _fault(house, list(told), levels, people)


def must_watch(house, told):
    """List the people who are in all sets that are right tonight."""
    levels = thresholds(house, told)
    numbers = list(told)
    ready = _ready_people(house, numbers)
    want = house.wants[1]
    # If any set without the person is right, the one with the greatest numbers is.
    return sorted([person for person in ready
                   if _fault(house, numbers, levels, _without(ready, person)[:want]) is not None])


def may_watch(house, told):
    """List the people who are in some set that is right tonight."""
    levels = thresholds(house, told)
    numbers = list(told)
    ready = _ready_people(house, numbers)
    beside = max(0, house.wants[1] - 1)
    # If any set with the person is right, the one with the greatest numbers is.
    return sorted([person for person in ready
                   if _fault(house, numbers, levels, [person] + _without(ready, person)[:beside]) is None])


def sparing_set(house, told):
    """List the people of the right set whose told numbers are the least together."""
    levels = thresholds(house, told)
    numbers = list(told)
    ready = _ready_people(house, numbers)
    chosen = []
    for level in range(len(levels) - 1, -1, -1):
        while len(chosen) < max(levels[level:]):
            _, person = min([(numbers[person], person) for person in ready
                             if numbers[person] > level and person not in chosen])
            chosen.append(person)
    return sorted(chosen)


def _told_tonight(house, told):
    numbers = told_numbers(house, told)
    check_night(1, house.nights)
    return numbers


def _ready_people(house, numbers):
    """List who has come and has nights left, those with the greatest numbers first."""
    return [person for person in greatest_first(numbers)
            if house.comings[person] == 1 and numbers[person] > 0]


def _without(people, person):
    return [other for other in people if other != person]


def _fault(house, numbers, levels, people):
    """Return the first fault of these people tonight, or None."""
    for index, person in enumerate(people):
        if not 0 <= person < house.people:
            return ("stranger", person)
        if person in people[:index]:
            return ("twice", person)
        if house.comings[person] != 1:
            return ("early", person)
        if numbers[person] == 0:
            return ("none", person)
    if len(people) != house.wants[1]:
        return ("count", len(people), house.wants[1])
    for level, needed in enumerate(levels):
        found = len([person for person in people if numbers[person] > level])
        if found < needed:
            return ("level", level, found, needed)
    return None


def _slacks(house, numbers):
    """List for w = 0, 1, 2 .. the slack of the covers with exactly w ends.

    `least[k]` has for each number of ends behind night k the least price of the
    nights behind it and of the people who come behind it, where the price of a
    cover is the negative of its excess. No end is at or before night rest + 1.
    """
    sums = sums_by_coming(house, low_prices(house, numbers))
    never = sums[house.nights + 1][0] - sums[house.nights][0]
    least = [{} for _ in range(house.nights)] + [{0: never}]
    for night in range(house.nights, 0, -1):
        for count, price in list(least[night].items()):
            outside = house.wants[night] + sums[night][count] - sums[night - 1][count]
            keep_least(least[night - 1], count, price + outside)
            before = night - house.rest - 1
            if before > 0:
                inside = sums[night][count + 1] - sums[before][count + 1]
                keep_least(least[before], count + 1, price + inside)
    return [least[0][count] for count in range(len(least[0]))]
