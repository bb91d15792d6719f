import itertools

from nightsoff.errors import BadNumber, NamedTwice, NoPerson, TooLong, WrongLength
from nightsoff.houses import House
from nightsoff.tellings import LIMIT, Telling, told_numbers
from nightsoff.wants import Wants
from tests.search import Case


class MakingTellings(Case):
    def test_limit(self):
        self.assertEqual(LIMIT, 10 ** 30)

    def test_entries(self):
        self.assertEqual(Telling([3, 0, LIMIT]).entries, (3, 0, LIMIT))
        self.assertEqual(Telling((1, 2)).entries, (1, 2))
        self.assertEqual(Telling([]).entries, ())

    def test_bounds(self):
        self.assertEqual(len(Telling([0] * 30)), 30)
        self.refused(TooLong(31), Telling, [-1] * 31)
        self.refused(BadNumber(1, -1), Telling, [0, -1, LIMIT + 1])
        self.refused(BadNumber(0, LIMIT + 1), Telling, (LIMIT + 1, -1))

    def test_the_list_is_copied(self):
        entries = [1, 2]
        told = Telling(entries)
        entries[0] = 9
        self.assertEqual(told.entries, (1, 2))


class AskingTellings(Case):
    def test_as_a_sequence(self):
        told = Telling([3, 1])
        self.assertEqual([len(told), list(told), told[0], told[1]], [2, [3, 1], 3, 1])
        self.assertEqual([len(Telling([])), list(Telling([]))], [0, []])

    def test_persons(self):
        for person in (2, -1, -2, LIMIT):
            self.refused(NoPerson(person), lambda: Telling([3, 1])[person])
        self.refused(NoPerson(0), lambda: Telling([])[0])

    def test_equality(self):
        told = Telling([3, 1])
        self.assertIs(told == Telling((3, 1)), True)
        self.assertIs(told == Telling([1, 3]), False)
        self.assertIs(told == Telling([3, 1, 0]), False)
        self.assertIs(told == (3, 1), False)
        self.assertIs(told == [3, 1], False)
        self.assertIs(told == None, False)  # noqa: E711
        self.assertIs(told != Telling([3, 1]), False)
        self.assertIs(Telling([]) == Telling([]), True)

    def test_order_is_that_of_tuples(self):
        some = [(), (0,), (1,), (0, 0), (0, 1), (1, 0), (1, 0, 0), (2, 9), (10, 0)]
        for one, two in itertools.product(some, repeat=2):
            self.assertIs(Telling(one) < Telling(two), one < two)
            self.assertIs(Telling(one) > Telling(two), one > two)

    def test_sum(self):
        self.assertEqual([abs(Telling([])), abs(Telling([LIMIT, 2]))], [0, LIMIT + 2])


class ReckoningWithTellings(Case):
    def test_plus(self):
        found = Telling([3, 1]) + Telling([0, 5])
        self.assertIsInstance(found, Telling)
        self.assertEqual(found.entries, (3, 6))
        self.assertEqual((Telling([]) + Telling([])).entries, ())
        self.assertEqual((Telling([LIMIT - 1]) + Telling([1])).entries, (LIMIT,))
        self.refused(WrongLength(1, 2), lambda: Telling([3, 1]) + Telling([0]))
        self.refused(WrongLength(2, 0), lambda: Telling([]) + Telling([0, 0]))
        self.refused(BadNumber(1, LIMIT + 1), lambda: Telling([0, LIMIT]) + Telling([0, 1]))

    def test_times(self):
        told = Telling([3, 1])
        self.assertIsInstance(2 * told, Telling)
        self.assertEqual([(told * 2).entries, (3 * told).entries], [(6, 2), (9, 3)])
        self.assertEqual((told * 0).entries, (0, 0))
        self.assertEqual((Telling([0, 1]) * LIMIT).entries, (0, LIMIT))
        self.assertEqual((LIMIT ** 2 * Telling([])).entries, ())
        self.refused(BadNumber(0, -1), lambda: told * -1)
        self.refused(BadNumber(0, -7), lambda: -7 * Telling([]))
        self.refused(BadNumber(0, 3 * LIMIT), lambda: LIMIT * told)
        self.refused(BadNumber(1, LIMIT + 1), lambda: Telling([0, 1]) * (LIMIT + 1))

    def test_distance(self):
        self.assertEqual(Telling([3, 1, 0]) ^ Telling([1, 2, 0]), 3)
        self.assertEqual(Telling([LIMIT]) ^ Telling([0]), LIMIT)
        self.assertEqual(Telling([]) ^ Telling([]), 0)
        self.refused(WrongLength(3, 2), lambda: Telling([3, 1]) ^ Telling([0, 0, 0]))

    def test_no_steeper(self):
        self.assertIs(Telling([1, 3, 0]).no_steeper(Telling([0, 0, 4])), True)
        self.assertIs(Telling([0, 4, 0]).no_steeper(Telling([1, 3, 0])), False)
        self.assertIs(Telling([1, 2]).no_steeper(Telling([2, 1])), True)
        self.assertIs(Telling([1, 1]).no_steeper(Telling([3, 0])), False)
        self.assertIs(Telling([3, 0]).no_steeper(Telling([1, 1])), False)
        self.assertIs(Telling([]).no_steeper(Telling([])), True)
        # The sums of two agree with the condition, the sum of one does not.
        self.assertIs(Telling([4, 1, 1]).no_steeper(Telling([3, 3, 0])), False)
        self.refused(WrongLength(1, 2), Telling([1, 1]).no_steeper, Telling([2]))

    def test_no_steeper_as_the_document_says(self):
        some = list(itertools.product(range(4), repeat=3))
        for one, two in itertools.product(some, repeat=2):
            tops = [sum(sorted(one)[3 - j:]) <= sum(sorted(two)[3 - j:]) for j in (1, 2, 3)]
            wanted = sum(one) == sum(two) and all(tops)
            self.assertIs(Telling(one).no_steeper(Telling(two)), wanted)


class MovingNights(Case):
    def test_moved(self):
        told = Telling([3, 1, 0])
        self.assertIsInstance(told.moved(0, 2), Telling)
        self.assertEqual(told.moved(0, 2).entries, (2, 1, 1))
        self.assertEqual(told.moved(0, 1, 3).entries, (0, 4, 0))
        self.assertEqual(told.moved(1, 0, count=0).entries, (3, 1, 0))
        self.assertEqual(told.entries, (3, 1, 0))

    def test_checks_in_order(self):
        told = Telling([3, LIMIT])
        self.refused(NoPerson(2), told.moved, 2, -1, -1)
        self.refused(NoPerson(-1), told.moved, -1, -1, -1)
        self.refused(NoPerson(-2), told.moved, 0, -2, -1)
        self.refused(NamedTwice(1), told.moved, 1, 1, -1)
        self.refused(BadNumber(0, -1), told.moved, 1, 0, -1)
        self.refused(BadNumber(0, -1), told.moved, 0, 1, 4)
        self.refused(BadNumber(1, -1), told.moved, 1, 0, LIMIT + 1)
        self.refused(BadNumber(1, LIMIT + 3), told.moved, 0, 1, 3)
        self.refused(NoPerson(0), Telling([]).moved, 0, 0)
        self.assertEqual(told.entries, (3, LIMIT))


class ToldNumbers(Case):
    house = House(Wants([1, 1]), [1, 1])

    def test_lists_and_tellings(self):
        told = [0, LIMIT]
        found = told_numbers(self.house, told)
        self.assertEqual(found, [0, LIMIT])
        self.assertIsNot(found, told)
        self.assertEqual(told_numbers(self.house, Telling([4, 5])), [4, 5])

    def test_wrong_lists(self):
        self.refused(WrongLength(1, 2), told_numbers, self.house, [-1])
        self.refused(WrongLength(3, 2), told_numbers, self.house, Telling([1, 1, 1]))
        self.refused(BadNumber(0, -1), told_numbers, self.house, [-1, LIMIT + 1])
        self.refused(BadNumber(1, LIMIT + 1), told_numbers, self.house, [LIMIT, LIMIT + 1])
