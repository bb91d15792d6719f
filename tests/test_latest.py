from nightsoff.covers import Cover
from nightsoff.errors import BadNumber, NoPerson, WrongLength
from nightsoff.houses import House
from nightsoff.judge import judge
from nightsoff.latest import latest_coming, longest_rest
from nightsoff.plans import Plan, counts_of, plan_faults
from nightsoff.tellings import LIMIT, Telling
from nightsoff.wants import Wants
from tests.search import Case, all_counts, all_told, plain_excess, some_houses


def with_coming(house, person, coming):
    comings = list(house.comings)
    comings[person] = coming
    return House(house.wants, comings, rest=house.rest)


class Shared(Case):
    def check_found(self, found, houses, first, told):
        """Compare an answer with every house, from the least strict one on."""
        holds = [tuple(told) in all_counts(house) for house in houses]
        self.assertEqual(holds, sorted(holds, reverse=True))
        if not holds[0]:
            self.assertIsNone(found)
            return
        value, plan, cover = found
        last = sum(holds) - 1
        self.assertEqual(value, first + last)
        self.assertIsInstance(plan, Plan)
        self.assertEqual(plan.rows, judge(houses[last], told).plan.rows)
        self.assertEqual([plan_faults(houses[last], plan), counts_of(houses[last], plan)], [[], list(told)])
        if last == len(houses) - 1:
            self.assertIsNone(cover)
        else:
            self.assertIsInstance(cover, Cover)
            self.assertEqual(cover.ends, judge(houses[last + 1], told).cover.ends)
            self.assertGreater(plain_excess(houses[last + 1], list(cover), told), 0)


class LongestRest(Shared):
    def test_longest_rest(self):
        house = House.all_there(Wants([1, 1, 1, 1]), 3, rest=0)
        rest, plan, cover = longest_rest(house, [2, 1, 1])
        self.assertEqual([rest, plan.rows, list(cover)], [2, ((0,), (1,), (2,), (0,)), [4]])
        self.assertEqual(longest_rest(house, Telling([4, 0, 0]))[0], 0)
        self.assertIsNone(longest_rest(house, [2, 1, 2]))
        self.assertIsNone(longest_rest(house, [LIMIT, 0, 0]))

    def test_the_rest_of_the_house_is_not_looked_at(self):
        for rest in (0, 3, 4, 60):
            house = House.all_there(Wants([1, 1, 1, 1]), 3, rest=rest)
            self.assertEqual(longest_rest(house, [2, 1, 1])[0], 2)

    def test_up_to_all_nights(self):
        house = House.all_there(Wants([1, 1]), 2, rest=1)
        rest, plan, cover = longest_rest(house, [1, 1])
        self.assertEqual([rest, plan.rows, cover], [2, ((0,), (1,)), None])

    def test_nothing_and_nobody(self):
        rest, plan, cover = longest_rest(House(Wants([]), [1], rest=60), [0])
        self.assertEqual([rest, plan.rows, cover], [0, (), None])
        self.assertIsNone(longest_rest(House(Wants([]), [1]), [1]))
        rest, plan, cover = longest_rest(House(Wants([0, 0]), []), [])
        self.assertEqual([rest, plan.rows, cover], [2, ((), ()), None])
        self.assertIsNone(longest_rest(House(Wants([1]), []), []))

    def test_a_house_that_cannot_be_watched(self):
        self.assertIsNone(longest_rest(House(Wants([2, 0]), [1]), [2]))

    def test_against_every_rest(self):
        for house in some_houses(60, 141):
            houses = [house.changed(rest=rest) for rest in range(house.nights + 1)]
            for told in all_told(house):
                self.check_found(longest_rest(house, told), houses, 0, told)

    def test_wrong_lists(self):
        house = House(Wants([1]), [1, 1])
        self.refused(WrongLength(1, 2), longest_rest, house, [-1])
        self.refused(BadNumber(1, -1), longest_rest, house, [LIMIT, -1])
        self.refused(BadNumber(0, LIMIT + 1), longest_rest, house, [LIMIT + 1, -1])


class LatestComing(Shared):
    def test_latest_coming(self):
        house = House(Wants([1, 1, 1]), [1, 1], rest=1)
        coming, plan, cover = latest_coming(house, [2, 1], 1)
        self.assertEqual([coming, plan.rows, list(cover)], [2, ((0,), (1,), (0,)), [2]])
        self.assertEqual(latest_coming(house, [2, 1], 0)[0], 1)
        self.assertIsNone(latest_coming(house, Telling([1, 1]), 0))
        self.assertIsNone(latest_coming(house, [3, 0], 0))

    def test_the_present_coming_is_not_looked_at(self):
        for coming in (1, 2, 3, 4):
            house = House(Wants([1, 1, 1]), [1, coming], rest=1)
            self.assertEqual(latest_coming(house, [2, 1], 1)[0], 2)

    def test_never(self):
        house = House(Wants([1, 1]), [1, 1], rest=0)
        coming, plan, cover = latest_coming(house, [2, 0], 1)
        self.assertEqual([coming, plan.rows, cover], [3, ((0,), (0,)), None])

    def test_nothing(self):
        coming, plan, cover = latest_coming(House(Wants([]), [1]), [0], 0)
        self.assertEqual([coming, plan.rows, cover], [1, (), None])
        self.assertIsNone(latest_coming(House(Wants([]), [1]), [LIMIT], 0))

    def test_against_every_coming(self):
        for house in some_houses(45, 142):
            for person in range(house.people):
                houses = [with_coming(house, person, coming) for coming in range(1, house.nights + 2)]
                for told in all_told(house):
                    self.check_found(latest_coming(house, told, person), houses, 1, told)

    def test_wrong_arguments(self):
        house = House(Wants([1]), [1, 1])
        self.refused(WrongLength(1, 2), latest_coming, house, [-1], 5)
        self.refused(BadNumber(0, -1), latest_coming, house, [-1, 0], 5)
        self.refused(NoPerson(2), latest_coming, house, [9, 9], 2)
        self.refused(NoPerson(-1), latest_coming, house, [1, 0], -1)
        self.refused(NoPerson(0), latest_coming, House(Wants([]), []), [], 0)

    def test_the_list_stays_as_it_is(self):
        told = [2, 1]
        house = House(Wants([1, 1, 1]), [1, 1], rest=1)
        latest_coming(house, told, 1)
        longest_rest(house, told)
        self.assertEqual([told, house.comings, house.rest], [[2, 1], (1, 1), 1])
