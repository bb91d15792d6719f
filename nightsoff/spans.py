"""Spans: descriptions of runs from which joined runs are described (points 39 and 40)."""

from nightsoff.checks import check_rest
from nightsoff.errors import BadRest
from nightsoff.rows import steps_up
from nightsoff.wants import Wants


class Span:
    """What stretches can take of a run, as far as its neighbours must know."""

    def __init__(self, run, rest):
        check_rest(rest)
        self.length = len(run)
        self.rest = rest
        self.total = abs(run)
        # For each `enter` the greatest sums, by `leave` and `count`.
        self._sums = [_sums_of(run, rest, enter) for enter in range(rest + 1)]

    @classmethod
    def empty(cls, rest):
        return cls(Wants([]), rest)

    def held(self, enter, leave, count):
        """Return the greatest sum of the wants of taken nights, or None."""
        if not 0 <= enter <= self.rest:
            return None
        return self._sums[enter].get((leave, count))

    def joined(self, other):
        """Return the span of this run with the run of `other` behind it."""
        if other.rest != self.rest:
            raise BadRest(other.rest)
        span = Span(Wants([]), self.rest)
        span.length = self.length + other.length
        span.total = self.total + other.total
        span._sums = [_joined_sums(sums, other._sums) for sums in self._sums]
        return span

    def row(self):
        """Return the plain row of the run."""
        most = [0] * (self.length + 1)
        for (_, count), number in self._sums[0].items():
            most[count] = max(most[count], number)
        return steps_up(most)


def _sums_of(run, rest, enter):
    """Go through the run night by night, from a stretch that reaches into it."""
    sums = {(enter, 0): 0}
    for want in run:
        longer = {}
        for (leave, count), number in sums.items():
            if leave > 0:
                _keep_greatest(longer, (leave - 1, count), number + want)
            else:
                _keep_greatest(longer, (0, count), number)
                _keep_greatest(longer, (rest, count + 1), number + want)
        sums = longer
    return sums


def _joined_sums(sums, others):
    """Join the ways over one run with all ways over the run behind it."""
    found = {}
    for (leave, count), number in sums.items():
        for (last, added), more in others[leave].items():
            _keep_greatest(found, (last, count + added), number + more)
    return found


def _keep_greatest(sums, key, number):
    sums[key] = max(sums.get(key, 0), number)
