"""The longest rest and the latest coming with which numbers can be true (points 46 and 47)."""

from nightsoff.checks import check_person
from nightsoff.judge import judge
from nightsoff.tellings import told_numbers


def longest_rest(house, told):
    """Return the greatest rest, a plan with it and a cover against a longer one."""
    numbers = told_numbers(house, told)
    return _last_true([house.changed(rest=rest) for rest in range(house.nights + 1)], numbers, 0)


def latest_coming(house, told, person):
    """Return the greatest coming, a plan with it and a cover against a later one."""
    numbers = told_numbers(house, told)
    check_person(house, person)
    return _last_true([_coming_changed(house, person, coming)
                       for coming in range(1, house.nights + 2)], numbers, 1)


def _coming_changed(house, person, coming):
    comings = list(house.comings)
    comings[person] = coming
    return house.changed(comings=comings)


def _last_true(houses, numbers, start):
    """Find the last house in which the numbers can be true, counted from `start`."""
    verdicts = [judge(house, numbers) for house in houses]
    # Each house is stricter than the one before it, so those that hold come first.
    many = len([verdict for verdict in verdicts if verdict.holds])
    if many == 0:
        return None
    cover = None if many == len(verdicts) else verdicts[many].cover
    return (start + many - 1, verdicts[many - 1].plan, cover)
