"""Runs of nights, each with the number of watchers that it wants (point 7)."""

from nightsoff.checks import check_count, check_night, check_not_negative, check_numbers


class Wants:
    """A run of nights. It is never changed after it was made."""

    MOST = 60
    GREATEST = 30

    def __init__(self, numbers):
        check_count(len(numbers), Wants.MOST)
        check_numbers(numbers, Wants.GREATEST)
        self.numbers = tuple(numbers)

    @classmethod
    def of(cls, *numbers, times=1):
        return cls(numbers) * times

    def __len__(self):
        return len(self.numbers)

    def __iter__(self):
        return iter(self.numbers)

    def __getitem__(self, at):
        check_night(at, len(self.numbers))
        return self.numbers[at - 1]

    def __add__(self, other):
        return Wants(self.numbers + other.numbers)

    def __mul__(self, other):
        check_not_negative(other)
        nights = len(self.numbers) * other
        check_count(nights, Wants.MOST)
        if nights == 0:
            # Python refuses to repeat even an empty tuple 10 ** 30 times.
            return Wants(())
        return Wants(self.numbers * other)

    def __rmul__(self, other):
        return self * other

    def __lshift__(self, other):
        check_not_negative(other)
        return Wants(self.numbers[other:])

    def __rshift__(self, other):
        check_not_negative(other)
        # Checked ahead: the nights in front may be too many to be built.
        check_count(len(self.numbers) + other, Wants.MOST)
        return Wants((0,) * other + self.numbers)

    def __neg__(self):
        return Wants(self.numbers[::-1])

    def __abs__(self):
        return sum(self.numbers)
