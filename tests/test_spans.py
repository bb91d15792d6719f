import itertools

from nightsoff.errors import BadRest
from nightsoff.rows import plain_row
from nightsoff.spans import Span
from nightsoff.wants import Wants
from tests.search import Case, Numbers


def some_runs(count, seed, nights=7):
    numbers = Numbers(seed)
    return [Wants([]), Wants([2])] + [
        Wants(numbers.several(numbers.between(1, nights), 0, 3)) for _ in range(count - 2)]


def all_ways(run, rest, enter):
    """Every way of laying stretches over the run: (leave, count, sum), from point 39."""
    nights = len(run)
    ways = []
    starts = range(enter + 1, nights + 1)
    for count in range(nights + 1):
        for begun in itertools.combinations(starts, count):
            if any(two - one <= rest for one, two in zip(begun, begun[1:])):
                continue
            taken = set(range(1, enter + 1)) | {first + more for first in begun for more in range(rest + 1)}
            reached = max([enter, nights] + [first + rest for first in begun])
            ways.append((reached - nights, count, sum(run[night] for night in taken if night <= nights)))
    return ways


def held_sums(span):
    """All that the span answers, with arguments beyond their bounds."""
    edge = range(-1, span.rest + 3)
    return [span.held(enter, leave, count) for enter in edge for leave in edge
            for count in range(-1, span.length + 3)]


class Making(Case):
    def test_attributes(self):
        span = Span(Wants([1, 0, 5]), 2)
        self.assertEqual([span.length, span.rest, span.total], [3, 2, 6])
        empty = Span.empty(3)
        self.assertIsInstance(empty, Span)
        self.assertEqual([empty.length, empty.rest, empty.total, empty.row()], [0, 3, 0, []])

    def test_wrong_rests(self):
        for rest in (-1, 61):
            self.refused(BadRest(rest), Span, Wants([1]), rest)
            self.refused(BadRest(rest), Span.empty, rest)
        self.assertEqual(Span(Wants([1, 1]), 60).row(), [2])
        self.assertEqual(Span.empty(60).held(60, 60, 0), 0)


class Held(Case):
    def test_held(self):
        half = Span(Wants([1, 1]), 2)
        self.assertEqual([half.held(1, 0, 0), half.held(0, 1, 1), half.held(0, 2, 1), half.held(0, 0, 1)],
                         [1, 2, 1, None])
        # A run with as many nights as the entering stretch reaches, or fewer.
        self.assertEqual([half.held(2, 0, 0), half.held(2, 1, 0)], [2, None])
        self.assertEqual([Span(Wants([4]), 2).held(2, 1, 0), Span(Wants([4]), 2).held(2, 0, 0)], [4, None])

    def test_rest_and_beyond(self):
        span = Span(Wants([1, 2, 3]), 1)
        self.assertEqual([span.held(1, 1, 1), span.held(1, 0, 1), span.held(2, 0, 0), span.held(0, 2, 1)],
                         [4, 6, None, None])
        self.assertEqual([span.held(0, 1, 2), span.held(0, 0, 2), span.held(0, 0, 3), span.held(0, 0, 4),
                          span.held(0, 0, -1), span.held(-1, 0, 0), span.held(0, -1, 0)],
                         [6, None, None, None, None, None, None])
        self.assertEqual([Span(Wants([1, 2, 3]), 0).held(0, 0, count) for count in range(-1, 5)],
                         [None, 0, 3, 5, 6, None])

    def test_the_empty_span(self):
        for rest in (0, 1, 3):
            span = Span.empty(rest)
            for enter, leave in itertools.product(range(-1, rest + 2), repeat=2):
                wanted = 0 if enter == leave and 0 <= enter <= rest else None
                self.assertEqual(span.held(enter, leave, 0), wanted)
                self.assertEqual([span.held(enter, leave, 1), span.held(enter, leave, -1)], [None, None])

    def test_against_all_ways(self):
        for run in some_runs(40, 111):
            for rest in range(4):
                span = Span(run, rest)
                for enter in range(rest + 1):
                    ways = all_ways(run, rest, enter)
                    for leave in range(rest + 1):
                        for count in range(len(run) + 2):
                            sums = [total for end, many, total in ways if (end, many) == (leave, count)]
                            self.assertEqual(span.held(enter, leave, count), max(sums, default=None))

    def test_row(self):
        for run in some_runs(60, 112, nights=12):
            for rest in range(4):
                span = Span(run, rest)
                self.assertEqual(span.row(), plain_row(run, rest))
                span.row().append(9)
                self.assertEqual(span.row(), plain_row(run, rest))


class Joined(Case):
    def test_joined(self):
        half = Span(Wants([1, 1]), 2)
        whole = half.joined(half)
        self.assertIsInstance(whole, Span)
        self.assertEqual([whole.length, whole.rest, whole.total, whole.row()], [4, 2, 4, [3, 1]])
        self.assertEqual([half.length, half.total, half.row()], [2, 2, [2]])

    def test_unlike_rests(self):
        self.refused(BadRest(1), Span(Wants([1]), 2).joined, Span(Wants([1]), 1))
        self.refused(BadRest(3), Span.empty(0).joined, Span.empty(3))

    def test_against_the_joined_run(self):
        for left, right in zip(some_runs(30, 113), some_runs(30, 114)[::-1]):
            for rest in range(4):
                joined = Span(left, rest).joined(Span(right, rest))
                direct = Span(left + right, rest)
                self.assertEqual([joined.length, joined.rest, joined.total],
                                 [direct.length, direct.rest, direct.total])
                self.assertEqual(held_sums(joined), held_sums(direct))
                self.assertEqual(joined.row(), plain_row(left + right, rest))

    def test_straight_from_the_point(self):
        for left, right in zip(some_runs(15, 115, 5), some_runs(15, 116, 5)[::-1]):
            for rest in range(4):
                one = Span(left, rest)
                two = Span(right, rest)
                joined = one.joined(two)
                for p, q in itertools.product(range(rest + 1), repeat=2):
                    for w in range(len(left) + len(right) + 1):
                        pairs = [(one.held(p, r, u), two.held(r, q, w - u))
                                 for r in range(rest + 1) for u in range(w + 1)]
                        sums = [a + b for a, b in pairs if a is not None and b is not None]
                        self.assertEqual(joined.held(p, q, w), max(sums, default=None))

    def test_associative_and_neutral(self):
        runs = some_runs(24, 117, 5)
        for one, two, three in zip(runs, runs[8:], runs[16:]):
            for rest in range(4):
                spans = [Span(run, rest) for run in (one, two, three)]
                left = spans[0].joined(spans[1]).joined(spans[2])
                right = spans[0].joined(spans[1].joined(spans[2]))
                self.assertEqual(held_sums(left), held_sums(right))
                empty = Span.empty(rest)
                self.assertEqual(held_sums(empty.joined(spans[0])), held_sums(spans[0]))
                self.assertEqual(held_sums(spans[0].joined(empty)), held_sums(spans[0]))

    def test_more_nights_than_a_run_has(self):
        span = Span(Wants([1] * 40), 1)
        twice = span.joined(span)
        self.assertEqual([twice.length, twice.total, twice.row()], [80, 80, [2] * 40])
