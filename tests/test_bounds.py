from nightsoff.bounds import Bounds
from nightsoff.errors import BadNumber, NoPerson, TooLong, WrongLength
from nightsoff.tellings import LIMIT, Telling
from tests.search import Case


def both(bounds):
    return [bounds.lows, bounds.highs]


class Making(Case):
    def test_lows_and_highs(self):
        bounds = Bounds([0, 3], (LIMIT, 2))
        self.assertEqual(both(bounds), [(0, 3), (LIMIT, 2)])
        self.assertEqual(len(bounds), 2)
        self.assertEqual(both(Bounds((LIMIT,), [0])), [(LIMIT,), (0,)])
        self.assertEqual(both(Bounds([], [])), [(), ()])
        self.assertEqual(len(Bounds([], [])), 0)

    def test_thirty(self):
        self.assertEqual(len(Bounds([0] * 30, [1] * 30)), 30)
        self.refused(TooLong(31), Bounds, [-1] * 31, [-1])
        self.refused(TooLong(31), Bounds, [0] * 31, [0] * 31)

    def test_wrong_numbers(self):
        self.refused(BadNumber(1, -1), Bounds, [0, -1, LIMIT + 1], [])
        self.refused(BadNumber(0, LIMIT + 1), Bounds, [LIMIT + 1], [])
        self.refused(WrongLength(1, 2), Bounds, [0, 0], [-1])
        self.refused(WrongLength(31, 2), Bounds, [0, 0], [-1] * 31)
        self.refused(BadNumber(1, -1), Bounds, [0, 0], [LIMIT, -1])
        self.refused(BadNumber(1, LIMIT + 1), Bounds, [5, 5], [0, LIMIT + 1])

    def test_copies(self):
        lows = [0, 1]
        highs = [2, 3]
        bounds = Bounds(lows, highs)
        lows[0] = 9
        highs.append(9)
        self.assertEqual(both(bounds), [(0, 1), (2, 3)])

    def test_exact(self):
        self.assertEqual(both(Bounds.exact([4, 0])), [(4, 0), (4, 0)])
        self.assertEqual(both(Bounds.exact((7,))), [(7,), (7,)])
        self.assertEqual(both(Bounds.exact([])), [(), ()])
        self.refused(TooLong(31), Bounds.exact, [-1] * 31)
        self.refused(BadNumber(1, -2), Bounds.exact, [0, -2])

    def test_up_to(self):
        self.assertEqual(both(Bounds.up_to(3, 4)), [(0, 0, 0), (4, 4, 4)])
        self.assertEqual(both(Bounds.up_to(0, 4)), [(), ()])
        self.assertEqual(both(Bounds.up_to(1, LIMIT)), [(0,), (LIMIT,)])
        self.assertEqual(both(Bounds.up_to(30, 0)), [(0,) * 30, (0,) * 30])
        self.refused(TooLong(31), Bounds.up_to, 31, -1)
        self.refused(TooLong(10 ** 40), Bounds.up_to, 10 ** 40, 1)
        self.refused(BadNumber(0, -1), Bounds.up_to, 2, -1)
        self.refused(BadNumber(0, LIMIT + 1), Bounds.up_to, 2, LIMIT + 1)
        self.assertEqual(both(Bounds.up_to(0, -1)), [(), ()])


class Using(Case):
    def test_and_or(self):
        one = Bounds([0, 5, 2], [4, 6, 2])
        two = Bounds([1, 3, 9], [3, 9, 9])
        self.assertEqual(both(one & two), [(1, 5, 9), (3, 6, 2)])
        self.assertEqual(both(one | two), [(0, 3, 2), (4, 9, 9)])
        self.assertEqual(both(one), [(0, 5, 2), (4, 6, 2)])
        self.assertEqual(both(Bounds([], []) & Bounds([], [])), [(), ()])

    def test_and_or_of_unlike_lengths(self):
        for call in (lambda a, b: a & b, lambda a, b: a | b):
            self.refused(WrongLength(1, 2), call, Bounds.up_to(2, 1), Bounds.up_to(1, 1))
            self.refused(WrongLength(3, 0), call, Bounds([], []), Bounds.up_to(3, 1))

    def test_in(self):
        bounds = Bounds([1, 0], [2, LIMIT])
        for told in ([1, 0], [2, LIMIT], [2, 7], Telling([1, 1])):
            self.assertIs(told in bounds, True)
        for told in ([0, 0], [3, 0], [1, -1], [1, LIMIT + 1], [], [1], [1, 0, 0], Telling([1]), Telling([3, 3])):
            self.assertIs(told in bounds, False)
        self.assertIs([] in Bounds([], []), True)
        self.assertIs([0] in Bounds([], []), False)
        self.assertIs([1] in Bounds([2], [0]), False)

    def test_crossed(self):
        bounds = Bounds([3, 0, 1, 1], [2, 0, 1, 0])
        self.assertEqual(bounds.crossed(), [0, 3])
        bounds.crossed().append(1)
        self.assertEqual(bounds.crossed(), [0, 3])
        self.assertEqual(Bounds([], []).crossed(), [])
        self.assertEqual(Bounds([0, 4], [0, 4]).crossed(), [])

    def test_pinned(self):
        bounds = Bounds([0, 1], [5, 6])
        self.assertEqual(both(bounds.pinned(1, LIMIT, 0)), [(0, LIMIT), (5, 0)])
        self.assertEqual(both(bounds.pinned(0, 2, 3)), [(2, 1), (3, 6)])
        self.assertEqual(both(bounds), [(0, 1), (5, 6)])

    def test_pinned_wrongly(self):
        bounds = Bounds([0, 1], [5, 6])
        self.refused(NoPerson(2), bounds.pinned, 2, -1, -1)
        self.refused(NoPerson(-1), bounds.pinned, -1, 0, 0)
        self.refused(NoPerson(0), Bounds([], []).pinned, 0, 0, 0)
        self.refused(BadNumber(0, -1), bounds.pinned, 1, -1, -2)
        self.refused(BadNumber(0, LIMIT + 1), bounds.pinned, 1, LIMIT + 1, -2)
        self.refused(BadNumber(1, -2), bounds.pinned, 1, 0, -2)
        self.refused(BadNumber(1, LIMIT + 1), bounds.pinned, 1, LIMIT, LIMIT + 1)
