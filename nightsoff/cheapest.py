"""Cheapest covers (points 18 and 19)."""

from nightsoff.checks import check_people
from nightsoff.covers import Cover, ends_from, most_stretches, outside_wants
from nightsoff.errors import WrongLength


def price_of(house, cover, prices):
    """Return the price of a cover that fits."""
    outside = outside_wants(house, cover)
    _check_prices(house, prices)
    return outside + sum([row[ends_from(house, cover, person)]
                          for person, row in enumerate(prices)])


def cheapest(house, prices):
    """Return the least price of all covers that fit, and the cheapest cover."""
    _check_prices(house, prices)
    return cheapest_for(house, list(house.wants), prices)


def cheapest_for(house, wants, prices):
    """Do the same with other wants of the nights, which may be any numbers."""
    sums = sums_by_coming(house, prices)
    least, stays = _least_prices(house, wants, sums)
    # Who comes after the last night has a coming behind all ends.
    never = sums[house.nights + 1][0] - sums[house.nights][0]
    return (never + least[house.nights][0], _walk_back(house, stays))


def cover_of(house, people):
    """Return the cover whose bound for these people is their most."""
    check_people(house, people)
    counts = list(range(most_stretches(house) + 1))
    prices = [[count if person in people else 0 for count in counts]
              for person in range(house.people)]
    _, cover = cheapest(house, prices)
    return cover


def low_prices(house, lows):
    """Make the prices -max(0, low - w) for w ends."""
    counts = list(range(most_stretches(house) + 1))
    return [[-max(0, low - count) for count in counts] for low in lows]


def high_prices(house, highs):
    """Make the prices min(high, w) for w ends."""
    counts = list(range(most_stretches(house) + 1))
    return [[min(high, count) for count in counts] for high in highs]


def keep_least(prices, key, price):
    """Put the price under the key, unless a lesser one stands there."""
    prices[key] = min(prices.get(key, price), price)


def _check_prices(house, prices):
    if len(prices) != house.people:
        raise WrongLength(len(prices), house.people)
    wanted = most_stretches(house) + 1
    for row in prices:
        if len(row) != wanted:
            raise WrongLength(len(row), wanted)


def sums_by_coming(house, prices):
    """Add up prices: `sums[k][w]` is what the persons whose coming is at most
    k cost together for w ends, for k from 0 to n + 1.
    """
    sums = [[0] * (most_stretches(house) + 1)]
    for night in range(1, house.nights + 2):
        row = list(sums[night - 1])
        for person, coming in enumerate(house.comings):
            if coming == night:
                row = [total + price for total, price in zip(row, prices[person])]
        sums.append(row)
    return sums


def _least_prices(house, wants, sums):
    """Decide the nights from night 1 on, for each number w of later ends.

    `least[k][w]` is the least price of the nights up to k and of the persons
    whose coming is at most k. `stays[k][w]` says whether night k then stays
    outside; where both ways cost the same it does.
    """
    least = [[0] * len(sums[0])]
    stays = [[]]
    for night, want in enumerate(wants, start=1):
        before = max(0, night - house.rest - 1)
        outside = [want + now - then + below for now, then, below
                   in zip(sums[night], sums[night - 1], least[night - 1])]
        # One end more, so that there is no entry for the greatest number of ends.
        inside = [now - then + below for now, then, below
                  in zip(sums[night][1:], sums[before][1:], least[before][1:])]
        stays.append([one <= two for one, two in zip(outside, inside)] + [True])
        least.append([min(one, two) for one, two in zip(outside, inside)] + outside[-1:])
    return (least, stays)


def _walk_back(house, stays):
    """Make the cover from the last night back to the first one."""
    ends = []
    night = house.nights
    while night > 0:
        if stays[night][len(ends)]:
            night -= 1
        else:
            ends.insert(0, night)
            night = max(0, night - house.rest - 1)
    return Cover(ends)
