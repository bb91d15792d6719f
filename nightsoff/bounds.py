"""Bounds of numbers that are only half told (point 28)."""

from nightsoff.checks import MOST_PEOPLE, check_count, check_numbers
from nightsoff.errors import NoPerson, WrongLength
from nightsoff.tellings import LIMIT


class Bounds:
    """A low and a high for each person. They are never changed."""

    def __init__(self, lows, highs):
        check_count(len(lows), MOST_PEOPLE)
        check_numbers(lows, LIMIT)
        if len(highs) != len(lows):
            raise WrongLength(len(highs), len(lows))
        check_numbers(highs, LIMIT)
        self.lows = tuple(lows)
        self.highs = tuple(highs)

    @classmethod
    def exact(cls, numbers):
        return cls(numbers, numbers)

    @classmethod
    def up_to(cls, people, most):
        # Checked ahead: the lists may be too long to be built.
        check_count(people, MOST_PEOPLE)
        return cls([0] * people, [most] * people)

    def __len__(self):
        return len(self.lows)

    def __and__(self, other):
        self._check_alike(other)
        return Bounds([max(one, two) for one, two in zip(self.lows, other.lows)],
                      [min(one, two) for one, two in zip(self.highs, other.highs)])

    def __or__(self, other):
        self._check_alike(other)
        return Bounds([min(one, two) for one, two in zip(self.lows, other.lows)],
                      [max(one, two) for one, two in zip(self.highs, other.highs)])

    def __contains__(self, x):
        numbers = list(x)
        if len(numbers) != len(self.lows):
            return False
        return all([low <= number <= high
                    for low, number, high in zip(self.lows, numbers, self.highs)])

    def crossed(self):
        """List the persons whose low is greater than the high."""
        return [person for person, low in enumerate(self.lows) if low > self.highs[person]]

    def pinned(self, person, low, high):
        """Return the bounds with another low and high for the person."""
        if not 0 <= person < len(self.lows):
            raise NoPerson(person)
        check_numbers([low, high], LIMIT)
        lows = list(self.lows)
        highs = list(self.highs)
        lows[person] = low
        highs[person] = high
        return Bounds(lows, highs)

    def _check_alike(self, other):
        if len(other) != len(self.lows):
            raise WrongLength(len(other), len(self.lows))
