import itertools

from nightsoff.alike import both_rows, either_rows, lets_all, parting
from nightsoff.errors import NotFalling, UnlikeSums
from nightsoff.rows import row_allows, turned
from tests.search import Case, falling_rows, first_sums, row_lets

ALL = (lets_all, parting, both_rows, either_rows)


def lists_of(total, people):
    return [list(numbers) for numbers in itertools.product(range(total + 1), repeat=people)
            if sum(numbers) == total]


def lets(row, numbers):
    """Whether the first row of the house with this plain row allows the numbers."""
    return row_lets(turned(row), numbers)


class Comparing(Case):
    def test_lets_all(self):
        self.assertIs(lets_all([2, 2], [3, 1]), True)
        self.assertIs(lets_all([3, 1], [2, 2]), False)
        self.assertIs(lets_all([3, 3], [4, 1, 1]), False)
        self.assertIs(lets_all([4, 1, 1], [3, 3]), False)
        self.assertIs(lets_all([1, 1, 1], [3]), True)
        self.assertIs(lets_all([3], [1, 1, 1]), False)
        self.assertIs(lets_all([], []), True)

    def test_parting(self):
        self.assertIsNone(parting([2, 2], [3, 1]))
        self.assertEqual(parting([3, 1], [2, 2]), [2, 2])
        self.assertEqual(parting([4, 1, 1], [3, 3]), [2, 2, 2])
        self.assertIsNone(parting([], []))
        self.assertIsNone(parting([5, 2], [5, 2]))

    def test_against_all_rows_of_the_same_sum(self):
        for total in range(8):
            for row, other in itertools.product(falling_rows(total), repeat=2):
                wanted = all(a <= b for a, b in zip(first_sums(row, total), first_sums(other, total)))
                self.assertIs(lets_all(row, other), wanted)
                apart = parting(row, other)
                if wanted:
                    self.assertIsNone(apart)
                else:
                    self.assertEqual(apart, turned(other))
                    self.assertTrue(lets(other, apart))
                    self.assertFalse(lets(row, apart))

    def test_against_all_numbers(self):
        for total in range(6):
            for people in range(5):
                for row, other in itertools.product(falling_rows(total), repeat=2):
                    if lets_all(row, other):
                        for numbers in lists_of(total, people):
                            self.assertTrue(lets(row, numbers) or not lets(other, numbers))


class BothAndEither(Case):
    def test_rows(self):
        self.assertEqual(both_rows([3, 3], [4, 1, 1]), [4, 2])
        self.assertEqual(either_rows([3, 3], [4, 1, 1]), [3, 2, 1])
        self.assertEqual([both_rows([2, 2], [3, 1]), either_rows([2, 2], [3, 1])], [[3, 1], [2, 2]])
        self.assertEqual([both_rows([], []), either_rows([], [])], [[], []])
        self.assertEqual([both_rows([4], [4]), either_rows([4], [4])], [[4], [4]])

    def test_against_their_sums(self):
        for total in range(9):
            for row, other in itertools.product(falling_rows(total), repeat=2):
                both = both_rows(row, other)
                lesser = map(min, first_sums(turned(row), total), first_sums(turned(other), total))
                self.assertEqual(first_sums(turned(both), total), list(lesser))
                lesser = map(min, first_sums(row, total), first_sums(other, total))
                self.assertEqual(first_sums(either_rows(row, other), total), list(lesser))
                self.assertEqual(both, both_rows(other, row))

    def test_both_against_all_numbers(self):
        for total in range(7):
            for row, other in itertools.product(falling_rows(total), repeat=2):
                both = both_rows(row, other)
                for people in range(4):
                    for numbers in lists_of(total, people):
                        self.assertIs(lets(both, numbers), lets(row, numbers) and lets(other, numbers))

    def test_either_against_all_falling_rows(self):
        for total in range(9):
            rows = falling_rows(total)
            for row, other in itertools.product(rows, repeat=2):
                either = either_rows(row, other)
                self.assertIn(either, rows)
                self.assertTrue(lets_all(either, row) and lets_all(either, other))
                for third in rows:
                    if lets_all(third, row) and lets_all(third, other):
                        self.assertTrue(lets_all(third, either))


class WrongRows(Case):
    def test_rows_before_sums(self):
        for ask in ALL:
            self.refused(NotFalling(0), ask, [0], [1, 2])
            self.refused(NotFalling(2), ask, [3, 2, 3], [0])
            self.refused(NotFalling(1), ask, [5], [1, 2])
            self.refused(NotFalling(0), ask, [5], [-1])

    def test_unlike_sums(self):
        for ask in ALL:
            self.refused(UnlikeSums(3, 4), ask, [2, 1], [4])
            self.refused(UnlikeSums(1, 0), ask, [1], [])

    def test_rows_stay_as_they_are(self):
        row = [3, 3]
        other = [4, 1, 1]
        for ask in ALL:
            ask(row, other)
        self.assertEqual([row, other], [[3, 3], [4, 1, 1]])
        both_rows(row, row).append(1)
        either_rows(row, row).append(1)
        parting(row, other).append(1)
        self.assertEqual([row, either_rows(row, row), both_rows(row, row), parting(row, other)],
                         [[3, 3], [3, 3], [3, 3], turned(other)])
        self.assertIs(row_allows(turned(both_rows(row, other)), [2, 2, 1, 1]), True)
