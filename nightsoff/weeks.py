"""Weeks that repeat, and what people keep in many of them (points 56 and 57)."""

from nightsoff.cheapest import keep_least
from nightsoff.checks import check_count, check_number
from nightsoff.errors import BadRest, EmptyWeek
from nightsoff.houses import House

MOST_NIGHTS = 14
LONGEST_REST = 4
PEOPLE_LIMIT = 10 ** 6
WEEKS_LIMIT = 10 ** 18


class Week:
    """A run of nights that repeats, with its rest. It is never changed."""

    def __init__(self, run, rest):
        if len(run) == 0:
            raise EmptyWeek()
        check_count(len(run), MOST_NIGHTS)
        if not 0 <= rest <= LONGEST_REST:
            raise BadRest(rest)
        self.run = run
        self.rest = rest

    def written_out(self, weeks, people):
        """Return the house of that many weeks and people."""
        return House.all_there(self.run * weeks, people, rest=self.rest)


def kept_after(week, people, weeks):
    """Return the most that people keep in the house of that many weeks."""
    check_number(0, people, PEOPLE_LIMIT)
    check_number(1, weeks, WEEKS_LIMIT)
    return kept_in(week, people, weeks)


def kept_in(week, people, weeks):
    """Do the same for any numbers of people and weeks.

    The most is the least bound of all covers (points 17 and 19). The least bounds
    of the nights up to the last one, up to the one before it and so on, rest + 1
    in all, are enough to go on: a night outside costs its want, and a stretch
    costs one watch of each person.
    """
    bounds = [0] * (week.rest + 1)
    ways = _ways_of(week, people)
    left = weeks
    while left > 0:
        if left % 2 == 1:
            bounds = [min([bounds[place] + cost for place, cost in row.items()]) for row in ways]
        ways = [_row_after(row, ways) for row in ways]
        left = left // 2
    return bounds[0]


def _ways_of(week, people):
    """List how the bounds after a week come from those before it.

    Row k has for each place of a bound before the week, if it can lead to bound k
    after it, what must be added to it.
    """
    ways = [{place: 0} for place in range(week.rest + 1)]
    for want in week.run:
        row = {}
        for place, cost in ways[0].items():
            keep_least(row, place, cost + want)
        for place, cost in ways[week.rest].items():
            keep_least(row, place, cost + people)
        ways = [row] + ways[:-1]
    return ways


def _row_after(row, ways):
    """Return a row of the ways that lead through `ways` and then through the row."""
    found = {}
    for middle, cost in row.items():
        for place, more in ways[middle].items():
            keep_least(found, place, cost + more)
    return found
