"""Extra wants of one night (point 48)."""

from nightsoff.cheapest import cheapest_for, low_prices
from nightsoff.checks import check_night
from nightsoff.tellings import told_numbers


def extra_wants(house, told, night):
    """Return how many more watchers the night must want, with a cover to show it.

    The told numbers can be kept if no cover has an excess above 0 (point 23),
    and a greater want of the night helps against the covers that leave it outside.
    """
    numbers = told_numbers(house, told)
    check_night(night, house.nights)
    # Greater than the difference of any two prices, so that it alone decides
    # whether the cheapest cover leaves the night outside.
    great = sum(numbers) + house.whole + 1
    inside, cover = _greatest_excess(house, numbers, night, great)
    if inside > 0:
        return (None, cover)
    outside, cover = _greatest_excess(house, numbers, night, -great)
    if outside > great:
        return (outside - great, cover)
    return (0, None)


def _greatest_excess(house, numbers, night, more):
    """Return the greatest excess after the want of the night is raised."""
    wants = list(house.wants)
    wants[night - 1] += more
    price, cover = cheapest_for(house, wants, low_prices(house, numbers))
    return (-price, cover)
