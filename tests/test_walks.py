from nightsoff.errors import BadNumber, NotPossible, WrongLength
from nightsoff.houses import House
from nightsoff.judge import judge
from nightsoff.tellings import LIMIT, Telling
from nightsoff.wants import Wants
from nightsoff.walks import count_tellings, nth_telling, rank_telling, walk_tellings
from tests.search import Case, all_counts, all_told, some_houses


def walked(house):
    return [telling.entries for telling in walk_tellings(house)]


class Walking(Case):
    house = House.all_there(Wants([1, 1, 1, 1]), 3, rest=2)

    def test_walk(self):
        self.assertEqual(walked(self.house), [(1, 1, 2), (1, 2, 1), (2, 1, 1)])
        for telling in walk_tellings(self.house):
            self.assertIsInstance(telling, Telling)
        self.assertEqual(walked(House(Wants([1, 1]), [1, 2], rest=0)), [(1, 1), (2, 0)])

    def test_nothing_and_nobody(self):
        self.assertEqual(walked(House(Wants([]), [])), [()])
        self.assertEqual(walked(House(Wants([0, 0]), [])), [()])
        self.assertEqual(walked(House(Wants([]), [1, 1])), [(0, 0)])
        self.assertEqual(walked(House(Wants([2]), [1])), [])
        self.assertEqual(walked(House(Wants([1]), [])), [])
        self.assertEqual(walked(House(Wants([1, 0]), [3, 1], rest=60)), [(0, 1)])

    def test_a_house_that_cannot_be_watched(self):
        house = House(Wants([2, 1]), [1, 1], rest=1)
        self.assertEqual([walked(house), count_tellings(house)], [[], 0])
        self.refused(BadNumber(0, 0), nth_telling, house, 0)

    def test_a_walk_that_goes_on(self):
        walk = walk_tellings(self.house)
        other = walk_tellings(self.house)
        first = next(walk)
        first.entries = (9, 9, 9)
        self.assertEqual([next(walk).entries, next(other).entries, next(walk).entries],
                         [(1, 2, 1), (1, 1, 2), (2, 1, 1)])
        self.assertRaises(StopIteration, next, walk)
        self.assertEqual(next(other).entries, (1, 2, 1))

    def test_against_all_lists(self):
        for house in some_houses(250, 171):
            counts = all_counts(house)
            self.assertEqual(walked(house), counts)
            self.assertEqual(count_tellings(house), len(counts))
            for index, entries in enumerate(counts):
                telling = nth_telling(house, index)
                self.assertIsInstance(telling, Telling)
                self.assertEqual(telling.entries, entries)
                self.assertEqual(rank_telling(house, list(entries)), index)
            for index in (-1, len(counts), len(counts) + 1):
                self.refused(BadNumber(0, index), nth_telling, house, index)

    def test_more_people_against_verdicts(self):
        for house in (House(Wants([2, 1, 0, 2]), [1, 2, 1, 1], rest=1), House(Wants([3, 2, 3]), [1, 1, 1, 3], rest=0)):
            true = [tuple(told) for told in all_told(house) if judge(house, told).holds]
            self.assertGreater(len(true), 3)
            self.assertEqual(walked(house), true)
            self.assertEqual([rank_telling(house, Telling(told)) for told in true], list(range(len(true))))


class NthAndRank(Case):
    house = House.all_there(Wants([1, 1, 1, 1]), 3, rest=2)

    def test_nth(self):
        self.assertEqual(count_tellings(self.house), 3)
        self.assertEqual([nth_telling(self.house, index).entries for index in range(3)],
                         [(1, 1, 2), (1, 2, 1), (2, 1, 1)])

    def test_no_such_telling(self):
        for index in (-1, 3, 4, 10 ** 18, -10 ** 30):
            self.refused(BadNumber(0, index), nth_telling, self.house, index)
        self.refused(BadNumber(0, 1), nth_telling, House(Wants([]), []), 1)

    def test_rank(self):
        self.assertEqual(rank_telling(self.house, [2, 1, 1]), 2)
        self.assertEqual(rank_telling(self.house, Telling([1, 1, 2])), 0)
        self.assertEqual(rank_telling(House(Wants([]), []), []), 0)

    def test_not_possible(self):
        self.refused(NotPossible("sum", None), rank_telling, self.house, [1, 1, 1])
        self.refused(NotPossible("sum", None), rank_telling, self.house, [LIMIT, 0, 0])
        for told in ([4, 0, 0], [2, 2, 0]):
            with self.assertRaises(NotPossible) as caught:
                rank_telling(self.house, told)
            self.assertEqual(caught.exception.reason, "stretches")
            self.assertEqual(caught.exception.cover.ends, judge(self.house, told).cover.ends)
        # The sum is right, but the house cannot be watched.
        with self.assertRaises(NotPossible) as caught:
            rank_telling(House(Wants([2, 1]), [1, 1], rest=1), [2, 1])
        self.assertEqual(caught.exception.reason, "stretches")

    def test_wrong_lists(self):
        self.refused(WrongLength(2, 3), rank_telling, self.house, [-1, 0])
        self.refused(WrongLength(4, 3), rank_telling, self.house, Telling([1] * 4))
        self.refused(BadNumber(2, -1), rank_telling, self.house, [1, 1, -1])
        self.refused(BadNumber(0, LIMIT + 1), rank_telling, self.house, [LIMIT + 1, -1, 0])

    def test_the_list_stays_as_it_is(self):
        told = [2, 1, 1]
        rank_telling(self.house, told)
        self.assertEqual(told, [2, 1, 1])
