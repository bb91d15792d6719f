"""Shares of nights per week that last (point 59)."""

from math import lcm

from nightsoff.errors import BadNumber
from nightsoff.exact import Exact
from nightsoff.rates import rate_of
from nightsoff.tellings import greatest_first
from nightsoff.weeks import kept_in


class Lasting:
    """Whether shares last, with persons and weeks to show it if they do not."""

    def __init__(self, word, persons, weeks):
        self.word = word
        self.persons = persons
        self.weeks = weeks

    @property
    def lasts(self):
        return self.word == "lasts"


def lasting(week, shares):
    """Say whether the shares can be true in all weeks that fit."""
    for index, share in enumerate(shares):
        if share.top < 0:
            raise BadNumber(index, share.top)
    if not Exact.sum_of(shares).same(Exact(abs(week.run))):
        return Lasting("sum", None, None)
    # In weeks that fit, shares compare as the numbers after these weeks do.
    order = greatest_first(numbers_after(shares, _first_fit(shares)))
    for count in range(1, len(order) + 1):
        together = Exact.sum_of([shares[person] for person in order[:count]])
        if rate_of(week, count).share.below(together):
            weeks = _weeks_too_many(week, count, together, _first_fit(shares))
            return Lasting("many", sorted(order[:count]), weeks)
    return Lasting("lasts", None, None)


def numbers_after(shares, weeks):
    """List the numbers of nights after these weeks, or return None if they do not fit."""
    numbers = [share * weeks for share in shares]
    if any([number.bottom != 1 for number in numbers]):
        return None
    return [number.top for number in numbers]


def _first_fit(shares):
    """Return the least number of weeks from 1 on that fits."""
    weeks = 1
    for share in shares:
        weeks = lcm(weeks, share.bottom)
    return weeks


def _weeks_too_many(week, people, together, weeks):
    """Double the weeks until the people keep less than their shares together."""
    while not Exact(kept_in(week, people, weeks)).below(together * weeks):
        weeks = weeks * 2
    return weeks
