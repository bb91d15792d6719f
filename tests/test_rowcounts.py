import itertools

from nightsoff.errors import BadNumber, NotFalling
from nightsoff.houses import House
from nightsoff.rowcounts import row_count
from nightsoff.rows import first_row
from nightsoff.wants import Wants
from nightsoff.walks import count_tellings
from tests.search import Case, Numbers, falling_rows, row_lets


class Counting(Case):
    def test_count(self):
        self.assertEqual(row_count([2, 1, 1], 3), 3)
        self.assertEqual(row_count([2, 1, 1], 2), 0)
        self.assertEqual(row_count([3, 1], 2), 3)
        self.assertEqual(row_count([3, 1], 1), 0)
        self.assertEqual(row_count([4], 1), 1)
        self.assertEqual(row_count([24], 6), 118755)
        self.assertEqual(row_count([4] * 6, 6), 1)

    def test_nothing_and_nobody(self):
        self.assertEqual([row_count([], people) for people in range(4)], [1, 1, 1, 1])
        self.assertEqual([row_count([1], people) for people in range(4)], [0, 1, 2, 3])
        self.assertEqual(row_count([2, 2], 0), 0)

    def test_wrong_arguments(self):
        self.refused(NotFalling(1), row_count, [1, 2], -1)
        self.refused(NotFalling(0), row_count, [0], -1)
        self.refused(BadNumber(0, -1), row_count, [2, 1], -1)
        self.refused(BadNumber(0, -10 ** 18), row_count, [], -10 ** 18)

    def test_against_all_lists(self):
        for total in range(8):
            for row in falling_rows(total):
                for people in range(5):
                    wanted = sum(row_lets(row, numbers)
                                 for numbers in itertools.product(range(total + 1), repeat=people))
                    self.assertEqual(row_count(row, people), wanted)

    def test_against_the_tellings_of_houses(self):
        numbers = Numbers(181)
        for _ in range(40):
            run = Wants(numbers.several(numbers.between(1, 6), 0, 2))
            rest = numbers.below(4)
            for people in range(5):
                house = House.all_there(run, people, rest=rest)
                self.assertEqual(row_count(first_row(run, rest), people), count_tellings(house))

    def test_the_row_stays_as_it_is(self):
        row = [2, 1, 1]
        row_count(row, 3)
        self.assertEqual(row, [2, 1, 1])
