"""Extremes of forms, and answers about them (points 33 and 34)."""

from nightsoff.errors import WrongLength
from nightsoff.worlds import check_bounds, check_world, group_price, raise_in_order


class Extreme:
    """The most or the least of a form, with a world and covers to show it."""

    def __init__(self, number, world, covers):
        self.number = number
        self.world = world
        self.covers = tuple(covers)


class Answer:
    """A word, with the least and the most of the form to show it."""

    def __init__(self, word, least, most):
        self.word = word
        self.least = least
        self.most = most


def form_most(house, bounds, form):
    """Return the most of a form over all worlds."""
    check_bounds(house, bounds)
    if len(form) != house.people:
        raise WrongLength(len(form), house.people)
    check_world(house, bounds)
    order = form.order()
    world = raise_in_order(house, bounds.lows, bounds.highs, order)
    groups = [order[:count] for count in range(1, len(order))]
    covers = []
    for group in groups:
        _, cover = group_price(house, bounds, group)
        covers.append(cover)
    return Extreme(form(world), world, covers)


def form_least(house, bounds, form):
    """Return the least of a form over all worlds."""
    most = form_most(house, bounds, -form)
    return Extreme(-most.number, most.world, most.covers)


def answer(house, bounds, form, number):
    """Say whether the value of a form is at least the number, in every world."""
    least = form_least(house, bounds, form)
    most = form_most(house, bounds, form)
    if least.number >= number:
        return Answer("yes", least, most)
    if most.number < number:
        return Answer("no", least, most)
    return Answer("open", least, most)
