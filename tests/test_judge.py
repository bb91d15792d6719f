from nightsoff.covers import Cover, most_stretches
from nightsoff.errors import BadCover, BadNumber, WrongLength
from nightsoff.houses import House
from nightsoff.judge import Verdict, can_be_true, excess_of, greatest_excess, judge
from nightsoff.plans import counts_of, plan_faults
from nightsoff.settle import settle
from nightsoff.tellings import LIMIT, Telling
from nightsoff.wants import Wants
from tests.search import (
    Case, all_counts, all_covers, all_told, large_house, plain_cheapest, plain_excess, some_houses)


class Judging(Case):
    house = House(Wants([2, 1, 2]), [1, 1, 2], rest=1)

    def test_true(self):
        verdict = judge(self.house, [2, 2, 1])
        self.assertIsInstance(verdict, Verdict)
        self.assertEqual([verdict.word, verdict.total, verdict.cover], ["true", 5, None])
        self.assertEqual(verdict.plan.rows, ((0, 1), (2,), (0, 1)))
        self.assertIs(verdict.holds, True)
        self.assertIs(can_be_true(self.house, [2, 2, 1]), True)

    def test_stretches(self):
        verdict = judge(self.house, [2, 1, 2])
        self.assertEqual([verdict.word, verdict.total, verdict.plan], ["stretches", 5, None])
        self.assertIsInstance(verdict.cover, Cover)
        self.assertEqual(verdict.cover.ends, (1, 3))
        self.assertIs(verdict.holds, False)
        self.assertIs(can_be_true(self.house, [2, 1, 2]), False)

    def test_sum(self):
        for told in ([2, 2, 0], [2, 2, 2], [9, 9, 9], [0, 0, 0]):
            verdict = judge(self.house, told)
            self.assertEqual([verdict.word, verdict.total, verdict.plan, verdict.cover],
                             ["sum", sum(told), None, None])
            self.assertIs(verdict.holds, False)
            self.assertIs(can_be_true(self.house, told), False)

    def test_a_telling(self):
        self.assertEqual(judge(self.house, Telling([2, 2, 1])).word, "true")
        self.assertIs(can_be_true(self.house, Telling([2, 1, 2])), False)

    def test_nothing_and_nobody(self):
        verdict = judge(House(Wants([]), []), [])
        self.assertEqual([verdict.word, verdict.total, verdict.plan.rows], ["true", 0, ()])
        self.assertEqual(judge(House(Wants([]), [1]), [0]).word, "true")
        self.assertEqual(judge(House(Wants([]), [1]), [1]).word, "sum")
        self.assertEqual(judge(House(Wants([0]), []), []).plan.rows, ((),))
        self.assertEqual(judge(House(Wants([1]), []), []).word, "sum")

    def test_comings_behind_all_nights(self):
        house = House(Wants([1, 1]), [3, 1], rest=0)
        self.assertEqual([judge(house, [0, 2]).word, judge(house, [1, 1]).word],
                         ["true", "stretches"])

    def test_wrong_lists(self):
        for ask in (judge, can_be_true, greatest_excess):
            self.refused(WrongLength(2, 3), ask, self.house, [-1, -1])
            self.refused(WrongLength(4, 3), ask, self.house, Telling([0] * 4))
            self.refused(BadNumber(1, -1), ask, self.house, [0, -1, LIMIT + 1])
            self.refused(BadNumber(2, LIMIT + 1), ask, self.house, [0, LIMIT, LIMIT + 1])

    def test_the_list_stays_as_it_is(self):
        told = [2, 2, 1]
        judge(self.house, told)
        can_be_true(self.house, told)
        greatest_excess(self.house, told)
        excess_of(self.house, Cover([]), told)
        self.assertEqual(told, [2, 2, 1])

    def test_against_all_plans_that_fit(self):
        for house in some_houses(250, 50):
            counts = all_counts(house)
            for told in all_told(house):
                verdict = judge(house, told)
                wanted = tuple(told) in counts
                self.assertIs(verdict.holds, wanted)
                self.assertIs(can_be_true(house, told), wanted)
                self.assertEqual(verdict.total, sum(told))
                if wanted:
                    self.assertEqual(plan_faults(house, verdict.plan), [])
                    self.assertEqual(counts_of(house, verdict.plan), told)
                    self.assertEqual(verdict.plan.rows, settle(house, told).plan.rows)
                    self.assertIsNone(verdict.cover)
                else:
                    self.assertIsNone(verdict.plan)
                    right_sum = sum(told) == house.whole
                    self.assertEqual(verdict.word, "stretches" if right_sum else "sum")
                    self.assertEqual(verdict.cover is not None, right_sum)
                    if right_sum:
                        self.assertEqual(verdict.cover.ends, settle(house, told).cover.ends)
                        self.assertGreater(excess_of(house, verdict.cover, told), 0)

    def test_a_large_house(self):
        for rest in (0, 2, 60):
            house = large_house(rest)
            for told in ([0] * 30, [LIMIT] * 30, [house.whole] + [0] * 29):
                self.assertIs(can_be_true(house, told), False)
        house = House.all_there(Wants([10] * 60), 30, rest=2)
        self.assertEqual([judge(house, [20] * 30).word, judge(house, [21, 19] * 15).word],
                         ["true", "stretches"])


class Excess(Case):
    house = House(Wants([2, 1, 2]), [1, 1, 2], rest=1)

    def test_excess_of(self):
        self.assertEqual(excess_of(self.house, Cover([1, 3]), [2, 1, 2]), 1)
        self.assertEqual(excess_of(self.house, Cover([]), [2, 1, 2]), 0)
        self.assertEqual(excess_of(self.house, Cover([2]), [2, 1, 2]), 0)
        self.assertEqual(excess_of(self.house, Cover([1]), Telling([0, 0, 0])), -3)
        self.assertEqual(excess_of(House(Wants([]), [1]), Cover([]), [LIMIT]), LIMIT)

    def test_checks_in_order(self):
        self.refused(BadCover(("end", 4)), excess_of, self.house, Cover([4]), [])
        self.refused(BadCover(("near", 1, 2)), excess_of, self.house, Cover([1, 2]), [-1, 0, 0])
        self.refused(WrongLength(1, 3), excess_of, self.house, Cover([1]), [-1])
        self.refused(BadNumber(0, -1), excess_of, self.house, Cover([1]), [-1, 0, 0])
        self.refused(BadNumber(0, LIMIT + 1), excess_of, self.house, Cover([1]), [LIMIT + 1, 0, 0])

    def test_greatest_excess(self):
        number, cover = greatest_excess(self.house, [2, 1, 2])
        self.assertIsInstance(cover, Cover)
        self.assertEqual([number, cover.ends], [1, (1, 3)])
        number, cover = greatest_excess(self.house, Telling([0, 0, 0]))
        self.assertEqual([number, cover.ends], [0, (1, 3)])
        number, cover = greatest_excess(House(Wants([]), [1]), [LIMIT])
        self.assertEqual([number, cover.ends], [LIMIT, ()])

    def test_against_all_covers_and_all_short_plans(self):
        for house in some_houses(250, 51):
            counts = all_counts(house, short=True)
            covers = all_covers(house)
            for told in all_told(house):
                excesses = [plain_excess(house, ends, told) for ends in covers]
                done = settle(house, told)
                left = min(sum(told) - sum(kept) for kept in counts
                           if all(a <= b for a, b in zip(kept, told)))
                self.assertEqual(done.missing, max(excesses))
                self.assertEqual(done.missing, left)
                self.assertEqual(excess_of(house, done.cover, told), done.missing)

    def test_greatest_excess_is_that_of_a_cheapest_cover(self):
        for house in some_houses(100, 52):
            steps = range(most_stretches(house) + 1)
            covers = all_covers(house)
            for told in list(all_told(house))[::3]:
                number, cover = greatest_excess(house, told)
                prices = [[-max(0, one - count) for count in steps] for one in told]
                self.assertEqual((-number, list(cover)), plain_cheapest(house, prices))
                self.assertEqual(number, settle(house, told).missing)
                for ends in covers:
                    self.assertEqual(excess_of(house, Cover(ends), told),
                                     plain_excess(house, ends, told))

    def test_a_large_house(self):
        for rest in (0, 2, 60):
            house = large_house(rest)
            for told in ([0] * 30, list(range(30)), [LIMIT] * 30):
                number, cover = greatest_excess(house, told)
                self.assertEqual(number, settle(house, told).missing)
                self.assertEqual(number, excess_of(house, cover, told))
