"""Rates: what people can keep for ever, per week (point 58)."""

from nightsoff.checks import check_number
from nightsoff.exact import Exact
from nightsoff.weeks import PEOPLE_LIMIT

WORDS = ("night", "stretch")


class Rate:
    """The rate of some people, with a round and heights to show it."""

    def __init__(self, share, steps, heights):
        self.share = share
        self.steps = steps
        self.heights = heights


def rate_of(week, people):
    """Return the least share of all rounds of the week."""
    check_number(0, people, PEOPLE_LIMIT)
    share, steps = _best_round(week, people)
    return Rate(share, steps, _heights(week, people, share))


def _best_round(week, people):
    """Return the least share of all walks back to their start, and the steps of one.

    The first walk with that share comes to no night twice, so it is a round: one that
    does falls into two walks with that share, and the one through the start is shorter.
    """
    best = None
    steps = []
    for start in range(1, len(week.run) + 1):
        walks = _cheapest_walks(week, people, start)
        # A round has at most as many steps as the week has nights, so that it
        # goes round the week at most rest + 1 times.
        for turns in range(1, week.rest + 2):
            cost, walk = walks[turns * len(week.run)]
            share = Exact(cost, turns)
            if best is None or share.below(best):
                best = share
                steps = walk
    return (best, steps)


def _cheapest_walks(week, people, start):
    """List the cost and the steps of a cheapest walk for each number of nights back."""
    walks = [(0, [])]
    for back in range(1, len(week.run) * (week.rest + 1) + 1):
        found = []
        for word in WORDS:
            before = back - _nights_back(week, word)
            if before >= 0:
                cost, steps = walks[before]
                night = _night_before(week, start, before)
                found.append((cost + _cost(week, people, night, word), steps + [(night, word)]))
        walks.append(min(found))
    return walks


def _heights(week, people, share):
    """List heights from which no step leads down faster than the rate."""
    nights = len(week.run)
    scale = share.bottom * nights
    # Heights times the scale are whole numbers.
    heights = [0] * nights
    for _ in range(nights):
        heights = [min([heights[night - 1]] + [
            heights[_night_before(week, night, _nights_back(week, word)) - 1]
            + _cost(week, people, night, word) * scale - share.top * _nights_back(week, word)
            for word in WORDS]) for night in range(1, nights + 1)]
    return [Exact(height, scale) for height in heights]


def _nights_back(week, word):
    return 1 if word == "night" else week.rest + 1


def _night_before(week, night, back):
    """Return the night to which that many nights back lead."""
    return (night - 1 - back) % len(week.run) + 1


def _cost(week, people, night, word):
    return week.run[night] if word == "night" else people
