"""Exact fractions (point 55)."""

from math import gcd

from nightsoff.errors import ZeroBottom


class Exact:
    """A fraction in lowest terms, with a positive bottom. It is never changed."""

    def __init__(self, top, bottom=1):
        if bottom == 0:
            raise ZeroBottom()
        shared = gcd(top, bottom)
        if bottom < 0:
            shared = -shared
        self.top = top // shared
        self.bottom = bottom // shared

    @staticmethod
    def sum_of(fractions):
        total = Exact(0)
        for fraction in fractions:
            total = total + fraction
        return total

    def __add__(self, other):
        return Exact(self.top * other.bottom + other.top * self.bottom, self.bottom * other.bottom)

    def __sub__(self, other):
        return Exact(self.top * other.bottom - other.top * self.bottom, self.bottom * other.bottom)

    def __mul__(self, other):
        if isinstance(other, Exact):
            return Exact(self.top * other.top, self.bottom * other.bottom)
        return Exact(self.top * other, self.bottom)

    def __rmul__(self, other):
        return self * other

    def __floordiv__(self, other):
        if other.top == 0:
            raise ZeroBottom()
        return self.top * other.bottom // (self.bottom * other.top)

    def __pow__(self, other):
        top = 1
        bottom = 1
        for _ in range(other):
            top = top * self.top
            bottom = bottom * self.bottom
        return Exact(top, bottom)

    def __neg__(self):
        return Exact(-self.top, self.bottom)

    def __abs__(self):
        return Exact(abs(self.top), self.bottom)

    def below(self, other):
        return self.top * other.bottom < other.top * self.bottom

    def same(self, other):
        return self.top == other.top and self.bottom == other.bottom

    def text(self):
        if self.bottom == 1:
            return f"{self.top}"
        return f"{self.top}/{self.bottom}"
