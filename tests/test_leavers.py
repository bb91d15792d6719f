import itertools

from nightsoff.covers import Cover
from nightsoff.errors import BadComing, BadNumber, BadRest, TooLong, WrongLength
from nightsoff.houses import House
from nightsoff.judge import Verdict, judge
from nightsoff.leavers import LeavingHouse, LeavingVerdict, judge_leaving
from nightsoff.plans import Plan
from nightsoff.tellings import LIMIT, Telling
from nightsoff.wants import Wants
from tests.search import Case, Numbers, counts_in, subsets

RUN = Wants([2, 1, 0])


def leaving_counts(house):
    """The counts of all plans that fit, straight from the leavings."""
    plans = [[]]
    for night, want in enumerate(house.wants, start=1):
        there = [person for person, last in enumerate(house.leavings) if night <= last]
        plans = [rows + [row] for rows in plans for row in subsets(there) if len(row) == want
                 and not any(person in past for person in row
                             for past in rows[max(0, night - 1 - house.rest):])]
    return {counts_in(rows, len(house.leavings)) for rows in plans}, plans


class MakingLeavingHouses(Case):
    def test_attributes(self):
        house = LeavingHouse(RUN, [3, 0, 1], rest=2)
        self.assertIsInstance(house.wants, Wants)
        self.assertEqual([house.wants.numbers, house.leavings, house.rest], [(2, 1, 0), (3, 0, 1), 2])
        self.assertEqual(LeavingHouse(RUN, (1,)).rest, 1)
        self.assertEqual(LeavingHouse(Wants([]), [0, 0]).leavings, (0, 0))

    def test_checks_in_order(self):
        self.assertEqual(len(LeavingHouse(RUN, [1] * 30).leavings), 30)
        self.refused(TooLong(31), LeavingHouse, RUN, [9] * 31, rest=61)
        self.refused(BadComing(1, 4), LeavingHouse, RUN, [3, 4, -1], rest=61)
        self.refused(BadComing(0, -1), LeavingHouse, RUN, [-1, 4])
        self.refused(BadComing(0, 1), LeavingHouse, Wants([]), [1])
        self.refused(BadRest(61), LeavingHouse, RUN, [1], rest=61)
        self.refused(BadRest(-1), LeavingHouse, RUN, [1], rest=-1)
        self.assertEqual([LeavingHouse(RUN, [], rest=rest).rest for rest in (0, 60)], [0, 60])
        self.assertRaises(TypeError, LeavingHouse, RUN, [1], 1)

    def test_the_list_is_copied(self):
        leavings = [3, 1]
        house = LeavingHouse(RUN, leavings)
        leavings[0] = 0
        self.assertEqual(house.leavings, (3, 1))

    def test_mirror(self):
        mirror = LeavingHouse(RUN, [3, 0, 1], rest=2).mirror()
        self.assertIsInstance(mirror, House)
        self.assertEqual([mirror.wants.numbers, mirror.comings, mirror.rest],
                         [(0, 1, 2), (1, 4, 3), 2])
        mirror = LeavingHouse(Wants([]), [0], rest=0).mirror()
        self.assertEqual([mirror.wants.numbers, mirror.comings, mirror.rest], [(), (1,), 0])


class JudgingLeavers(Case):
    house = LeavingHouse(Wants([2, 1, 2]), [3, 3, 2], rest=1)

    def parts(self, verdict):
        return [verdict.word, verdict.total, verdict.holds, verdict.starts]

    def test_true(self):
        verdict = judge_leaving(self.house, [2, 2, 1])
        self.assertIsInstance(verdict, LeavingVerdict)
        self.assertIsInstance(verdict, Verdict)
        self.assertIsInstance(verdict.plan, Plan)
        self.assertEqual(self.parts(verdict), ["true", 5, True, None])
        self.assertEqual([verdict.plan.rows, verdict.cover], [((0, 1), (2,), (0, 1)), None])

    def test_the_rows_are_turned_round(self):
        verdict = judge_leaving(LeavingHouse(Wants([1, 2, 0]), [1, 3, 2], rest=0), [1, 1, 1])
        self.assertEqual(verdict.plan.rows, ((0,), (1, 2), ()))

    def test_stretches(self):
        verdict = judge_leaving(self.house, [2, 1, 2])
        self.assertEqual(self.parts(verdict), ["stretches", 5, False, (1, 3)])
        self.assertIsNone(verdict.plan)
        self.assertIsInstance(verdict.cover, Cover)
        self.assertEqual(verdict.cover.ends, (1, 3))

    def test_starts_are_ascending(self):
        house = LeavingHouse(Wants([1, 1, 1, 1, 0, 0]), [4, 4], rest=1)
        verdict = judge_leaving(house, [4, 0])
        self.assertEqual(verdict.starts, tuple(sorted(7 - end for end in verdict.cover)))
        self.assertEqual(len(verdict.starts), 2)

    def test_sum(self):
        verdict = judge_leaving(self.house, [2, 2, 2])
        self.assertEqual(self.parts(verdict), ["sum", 6, False, None])
        self.assertEqual([verdict.plan, verdict.cover], [None, None])

    def test_nothing_and_nobody(self):
        verdict = judge_leaving(LeavingHouse(Wants([]), []), [])
        self.assertEqual(self.parts(verdict), ["true", 0, True, None])
        self.assertEqual(verdict.plan.rows, ())
        self.assertEqual(judge_leaving(LeavingHouse(Wants([]), [0]), [1]).word, "sum")
        self.assertEqual(judge_leaving(LeavingHouse(Wants([0, 1]), []), []).word, "sum")

    def test_leavings_at_the_bounds(self):
        house = LeavingHouse(Wants([1, 1]), [0, 2], rest=0)
        self.assertEqual([judge_leaving(house, told).word for told in ([0, 2], [1, 1])],
                         ["true", "stretches"])

    def test_told_lists(self):
        self.assertEqual(judge_leaving(self.house, Telling([2, 2, 1])).word, "true")
        self.refused(WrongLength(2, 3), judge_leaving, self.house, [-1, 0])
        self.refused(WrongLength(4, 3), judge_leaving, self.house, Telling([0] * 4))
        self.refused(BadNumber(1, -1), judge_leaving, self.house, [0, -1, LIMIT + 1])
        self.refused(BadNumber(2, LIMIT + 1), judge_leaving, self.house, [0, LIMIT, LIMIT + 1])
        told = [2, 2, 1]
        judge_leaving(self.house, told)
        self.assertEqual(told, [2, 2, 1])

    def test_against_all_its_plans(self):
        numbers = Numbers(70)
        for _ in range(200):
            nights, people = numbers.between(1, 4), numbers.between(1, 3)
            leavings = [min(nights, leaving + 1) for leaving in numbers.several(people, -1, nights)]
            house = LeavingHouse(Wants(numbers.several(nights, 0, 2)), leavings,
                                 rest=numbers.between(0, 3))
            counts, plans = leaving_counts(house)
            for told in map(list, itertools.product(range(nights + 1), repeat=people)):
                verdict = judge_leaving(house, told)
                mirrored = judge(house.mirror(), told)
                self.assertIs(verdict.holds, tuple(told) in counts)
                self.assertEqual([verdict.word, verdict.total], [mirrored.word, mirrored.total])
                if verdict.holds:
                    self.assertIn([list(row) for row in verdict.plan], plans)
                    self.assertEqual(counts_in(verdict.plan.rows, people), tuple(told))
                    self.assertEqual(verdict.plan.rows, mirrored.plan.rows[::-1])
                if verdict.word == "stretches":
                    self.assertEqual(verdict.cover.ends, mirrored.cover.ends)
                    self.assertEqual(verdict.starts,
                                     tuple(sorted(nights + 1 - end for end in verdict.cover)))
                else:
                    self.assertIsNone(verdict.starts)

    def test_a_large_house(self):
        house = LeavingHouse(Wants([10] * 60), [60] * 30, rest=2)
        self.assertEqual([judge_leaving(house, [20] * 30).word, judge_leaving(house, [21, 19] * 15).word],
                         ["true", "stretches"])
