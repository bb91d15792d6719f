"""Desks: leading a house night by night (point 64).

The state of a desk is a tuple of the house, the told numbers and the rows of the
nights that are over.
"""

from nightsoff.checks import check_night, check_number, check_person
from nightsoff.errors import (
    BadComing, BadMode, DeskOver, NamedTwice, NoneLeft, NotRight, PastNight, TooEarly, TooFew, TooSoon, WrongCount)
from nightsoff.history import History
from nightsoff.judge import can_be_true
from nightsoff.plans import Plan, free_people
from nightsoff.settle import settle
from nightsoff.tellings import LIMIT, told_numbers
from nightsoff.tonight import thresholds, tonight_fault
from nightsoff.wants import Wants

MODES = ("right", "any")


class Desk(History):
    """A house of which some nights are over, with the told numbers."""

    def __init__(self, house, told):
        super().__init__()
        self._state = (house, tuple(told_numbers(house, told)), ())
        self._mode = "right"

    @property
    def now(self):
        _, _, rows = self._state
        return len(rows) + 1

    @property
    def kept(self):
        return tuple(_kept_numbers(self._state))

    @property
    def left(self):
        return tuple(_left_numbers(self._state))

    @property
    def mode(self):
        return self._mode

    @mode.setter
    def mode(self, value):
        if value not in MODES:
            raise BadMode(value)
        self._mode = value

    def switch(self, word):
        """Set the mode: "right" or "any"."""
        self.mode = word

    def still_kept(self):
        """Say whether the left numbers can be true in the house ahead."""
        house, left = self.ahead()
        return can_be_true(house, left)

    def free_tonight(self):
        """List who has come by the present night and is rested."""
        house, _, rows = self._state
        if len(rows) == house.nights:
            return []
        return free_people(house, rows, len(rows) + 1)

    def choose(self):
        """List the people whom settling would take on the present night."""
        _check_not_over(self._state)
        house, left = self.ahead()
        return list(settle(house, left).plan[1])

    def ahead(self):
        """Return the house ahead and the left numbers."""
        return (_house_ahead(self._state), _left_numbers(self._state))

    def house_now(self):
        """Return the whole house, as corrected."""
        house, _, _ = self._state
        return house

    def told_now(self):
        """List the told numbers, as corrected."""
        _, told, _ = self._state
        return list(told)

    def rows_so_far(self):
        """Return the rows of the nights that are over."""
        _, _, rows = self._state
        return Plan(rows)

    def outlook(self):
        """Return the rows so far, with those of settling behind them."""
        house, left = self.ahead()
        return self.rows_so_far() + settle(house, left).plan

    def tonight(self):
        """List the thresholds of the present night."""
        _check_not_over(self._state)
        house, left = self.ahead()
        return thresholds(house, left)

    def do(self, deed):
        """Do a deed: "watch", "correct", "want" or "coming"."""
        if deed[0] == "watch":
            _check_watch(self._state, deed[1])
            if self._mode == "right":
                self._check_right(deed[1])
            row = tuple(sorted(deed[1]))
            house, told, rows = self._state
            self._keep(("watch", row), (house, told, rows + (row,)))
        else:
            change = CHANGES[deed[0]]
            self._keep(deed, change(self._state, deed[1], deed[2]))

    def watch(self, people):
        """Let these people watch on the present night."""
        self.do(("watch", tuple(people)))

    def _check_right(self, people):
        house, left = self.ahead()
        if not can_be_true(house, left):
            raise NotRight(-1)
        fault = tonight_fault(house, left, people)
        if fault is not None:
            raise NotRight(fault[1])


def _nights_watched(rows, person):
    return [night for night, row in enumerate(rows, start=1) if person in row]


def _kept_numbers(state):
    house, _, rows = state
    return [len(_nights_watched(rows, person)) for person in range(house.people)]


def _left_numbers(state):
    _, told, _ = state
    return [number - kept for number, kept in zip(told, _kept_numbers(state))]


def _house_ahead(state):
    """Return the house of the nights that are not over."""
    house, _, rows = state
    wants = house.wants << len(rows)
    comings = []
    for person, coming in enumerate(house.comings):
        rested = [night + house.rest + 1 for night in _nights_watched(rows, person)]
        first = max([coming] + rested) - len(rows)
        comings.append(min(max(1, first), len(wants) + 1))
    return house.changed(wants=wants, comings=comings)


def _check_not_over(state):
    house, _, rows = state
    if len(rows) == house.nights:
        raise DeskOver(house.nights)


def _check_watch(state, people):
    """Check what both modes ask of the people of the present night."""
    _check_not_over(state)
    house, _, rows = state
    now = len(rows) + 1
    left = _left_numbers(state)
    for index, person in enumerate(people):
        check_person(house, person)
        if person in people[:index]:
            raise NamedTwice(person)
        if house.comings[person] > now:
            raise TooEarly(now, person)
        last = max(_nights_watched(rows, person), default=now - house.rest - 1)
        if now - last <= house.rest:
            raise TooSoon(now, person, last)
        if left[person] == 0:
            raise NoneLeft(person)
    if len(people) != house.wants[now]:
        raise WrongCount(len(people), house.wants[now])


def _with_number(state, person, number):
    """Return the state after another told number of the person."""
    house, told, rows = state
    check_person(house, person)
    check_number(person, number, LIMIT)
    kept = len(_nights_watched(rows, person))
    if number < kept:
        raise TooFew(person, kept)
    return (house, told[:person] + (number,) + told[person + 1:], rows)


def _with_want(state, night, number):
    """Return the state after another want of a night that is not over."""
    house, told, rows = state
    check_night(night, house.nights)
    if night <= len(rows):
        raise PastNight(night)
    check_number(night, number, Wants.GREATEST)
    numbers = list(house.wants)
    numbers[night - 1] = number
    return (house.changed(wants=Wants(numbers)), told, rows)


def _with_coming(state, person, night):
    """Return the state after another coming of the person."""
    house, told, rows = state
    check_person(house, person)
    if not 1 <= night <= house.nights + 1:
        raise BadComing(person, night)
    for earlier in _nights_watched(rows, person):
        if earlier < night:
            raise TooEarly(earlier, person)
    comings = list(house.comings)
    comings[person] = night
    return (house.changed(comings=comings), told, rows)


CHANGES = {"correct": _with_number, "want": _with_want, "coming": _with_coming}
