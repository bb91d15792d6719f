"""Verdicts on told numbers, and the excess of covers (points 23 and 24)."""

from nightsoff.cheapest import cheapest, low_prices
from nightsoff.covers import ends_from, outside_wants
from nightsoff.errors import NotPossible
from nightsoff.settle import settle
from nightsoff.tellings import told_numbers


class Verdict:
    """Whether told numbers can be true, with a plan or a cover to show it."""

    def __init__(self, word, total, plan, cover):
        self.word = word
        self.total = total
        self.plan = plan
        self.cover = cover

    @property
    def holds(self):
        return self.word == "true"


def judge(house, told):
    """Decide whether some plan that fits has the told numbers as its counts."""
    numbers = told_numbers(house, told)
    total = sum(numbers)
    if total != house.whole:
        return Verdict("sum", total, None, None)
    settlement = settle(house, numbers)
    if settlement.missing > 0:
        return Verdict("stretches", total, None, settlement.cover)
    return Verdict("true", total, settlement.plan, None)


def can_be_true(house, told):
    return judge(house, told).holds


def true_numbers(house, told):
    """Check that told numbers can be true and return them as a new list."""
    numbers = told_numbers(house, told)
    verdict = judge(house, numbers)
    if not verdict.holds:
        raise NotPossible(verdict.word, verdict.cover)
    return numbers


def excess_of(house, cover, told):
    """Return the excess of a cover that fits."""
    outside = outside_wants(house, cover)
    numbers = told_numbers(house, told)
    return sum([max(0, number - ends_from(house, cover, person))
                for person, number in enumerate(numbers)]) - outside


def greatest_excess(house, told):
    """Return the greatest excess of all covers, and a cover that has it."""
    numbers = told_numbers(house, told)
    price, cover = cheapest(house, low_prices(house, numbers))
    return (-price, cover)
