from nightsoff.errors import BadNumber, NoNight, TooLong
from nightsoff.wants import Wants
from tests.search import Case

HUGE = 10 ** 30


class MakingWants(Case):
    def test_numbers(self):
        self.assertEqual(Wants([2, 0, 30]).numbers, (2, 0, 30))
        self.assertEqual(Wants((1, 2)).numbers, (1, 2))
        self.assertEqual(Wants([]).numbers, ())

    def test_class_values(self):
        self.assertEqual((Wants.MOST, Wants.GREATEST), (60, 30))

    def test_length(self):
        self.assertEqual(len(Wants([0] * 60)), 60)
        self.refused(TooLong(61), Wants, [0] * 61)
        self.refused(TooLong(62), Wants, [31] * 62)

    def test_bounds(self):
        self.refused(BadNumber(1, 31), Wants, [30, 31, -1])
        self.refused(BadNumber(0, -1), Wants, (-1, 31))
        self.refused(BadNumber(2, HUGE), Wants, [0, 0, HUGE])

    def test_of(self):
        self.assertIsInstance(Wants.of(), Wants)
        self.assertEqual(Wants.of().numbers, ())
        self.assertEqual(Wants.of(1, 2).numbers, (1, 2))
        self.assertEqual(Wants.of(1, 2, times=3).numbers, (1, 2) * 3)
        self.assertEqual(Wants.of(5, times=0).numbers, ())
        self.assertEqual(Wants.of(times=HUGE).numbers, ())

    def test_of_checks_the_numbers_first(self):
        self.refused(BadNumber(1, 31), Wants.of, 0, 31, times=-1)
        self.refused(TooLong(61), Wants.of, *[0] * 61, times=-1)
        self.refused(BadNumber(0, -1), Wants.of, 0, times=-1)
        self.refused(TooLong(62), Wants.of, 1, 2, times=31)

    def test_the_list_is_copied(self):
        numbers = [1, 2]
        run = Wants(numbers)
        numbers[0] = 9
        numbers.append(3)
        self.assertEqual(run.numbers, (1, 2))


class AskingWants(Case):
    def test_length_and_iteration(self):
        self.assertEqual([len(Wants([])), len(Wants([4, 5]))], [0, 2])
        self.assertEqual([list(Wants([])), list(Wants([4, 5]))], [[], [4, 5]])

    def test_nights(self):
        run = Wants([4, 5, 6])
        self.assertEqual([run[1], run[2], run[3]], [4, 5, 6])
        for night in (0, 4, -1, -3, HUGE):
            self.refused(NoNight(night), lambda: run[night])
        self.refused(NoNight(1), lambda: Wants([])[1])

    def test_sum(self):
        self.assertEqual([abs(Wants([])), abs(Wants([30, 0, 2]))], [0, 32])


class JoiningWants(Case):
    def test_plus(self):
        one, two = Wants([1, 2]), Wants([3])
        self.assertIsInstance(one + two, Wants)
        self.assertEqual((one + two).numbers, (1, 2, 3))
        self.assertEqual((two + one).numbers, (3, 1, 2))
        self.assertEqual((Wants([]) + Wants([])).numbers, ())
        self.assertEqual([one.numbers, two.numbers], [(1, 2), (3,)])

    def test_plus_at_the_limit(self):
        self.assertEqual(len(Wants([1] * 30) + Wants([2] * 30)), 60)
        self.refused(TooLong(61), lambda: Wants([1] * 31) + Wants([2] * 30))

    def test_times(self):
        run = Wants([1, 2])
        self.assertIsInstance(3 * run, Wants)
        self.assertEqual((run * 2).numbers, (1, 2, 1, 2))
        self.assertEqual((3 * run).numbers, (1, 2) * 3)
        self.assertEqual([(run * 0).numbers, (0 * run).numbers], [(), ()])
        self.assertEqual(len(run * 30), 60)

    def test_times_out_of_bounds(self):
        run = Wants([1, 2])
        self.refused(BadNumber(0, -1), lambda: run * -1)
        self.refused(BadNumber(0, -HUGE), lambda: -HUGE * run)
        self.refused(BadNumber(0, -1), lambda: Wants([]) * -1)
        self.refused(TooLong(62), lambda: run * 31)
        self.refused(TooLong(2 * HUGE), lambda: HUGE * run)

    def test_an_empty_run_repeated(self):
        self.assertEqual((Wants([]) * HUGE).numbers, ())
        self.assertEqual((HUGE * Wants([])).numbers, ())

    def test_without_the_first_nights(self):
        run = Wants([1, 2, 3])
        self.assertIsInstance(run << 1, Wants)
        shorter = [(run << count).numbers for count in (0, 1, 2, 3, 4, HUGE)]
        self.assertEqual(shorter, [(1, 2, 3), (2, 3), (3,), (), (), ()])
        self.refused(BadNumber(0, -1), lambda: run << -1)
        self.refused(BadNumber(0, -HUGE), lambda: run << -HUGE)

    def test_with_nights_in_front(self):
        run = Wants([1, 2])
        self.assertIsInstance(run >> 1, Wants)
        self.assertEqual([(run >> 0).numbers, (run >> 2).numbers], [(1, 2), (0, 0, 1, 2)])
        self.assertEqual((Wants([]) >> 2).numbers, (0, 0))
        self.assertEqual(len(run >> 58), 60)
        self.refused(TooLong(61), lambda: run >> 59)
        self.refused(TooLong(HUGE + 2), lambda: run >> HUGE)
        self.refused(TooLong(HUGE), lambda: Wants([]) >> HUGE)
        self.refused(BadNumber(0, -1), lambda: run >> -1)

    def test_reverse(self):
        run = Wants([1, 2, 3])
        self.assertIsInstance(-run, Wants)
        self.assertEqual([(-run).numbers, (-Wants([])).numbers], [(3, 2, 1), ()])
        self.assertEqual(run.numbers, (1, 2, 3))

    def test_refused_signs_change_nothing(self):
        run = Wants([1, 2])
        for refused in (lambda: run * 31, lambda: run << -1, lambda: run >> 59, lambda: run * -1):
            self.assertRaises(ValueError, refused)
        self.assertEqual(run.numbers, (1, 2))
