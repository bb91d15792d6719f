from nightsoff.covers import Cover, bound_of, ends_from
from nightsoff.errors import BadCover, BadNumber, NotPossible, WrongLength
from nightsoff.houses import House
from nightsoff.judge import excess_of, judge
from nightsoff.surely import settled, tight_covers
from nightsoff.tellings import LIMIT, Telling
from nightsoff.wants import Wants
from tests.search import (
    Case, all_counts, all_covers, all_plans, counts_in, plain_ends_from, plain_excess, plain_outside, some_houses,
    subsets, watched_houses)


class Tight(Case):
    house = House.all_there(Wants([1, 1, 1, 1]), 3, rest=2)

    def test_covers(self):
        found = tight_covers(self.house, [2, 1, 1])
        self.assertTrue(all(isinstance(cover, Cover) for cover in found))
        self.assertEqual([list(cover) for cover in found], [[], [1, 4], [3], [4]])

    def test_nothing_and_nobody(self):
        self.assertEqual([cover.ends for cover in tight_covers(House(Wants([]), []), [])], [()])
        self.assertEqual([cover.ends for cover in tight_covers(House(Wants([]), [1, 1]), [0, 0])], [()])
        self.assertEqual([cover.ends for cover in tight_covers(House(Wants([0, 0]), [], rest=0), [])],
                         [(), (1,), (1, 2), (2,)])
        self.assertEqual([cover.ends for cover in tight_covers(House(Wants([1, 0]), [3, 1], rest=60), [0, 1])],
                         [(), (1,), (2,)])

    def test_against_all_covers(self):
        tight = 0
        loose = 0
        for house in some_houses(100, 221) + watched_houses(60, 225, nights=5):
            covers = sorted(all_covers(house))
            for told in all_counts(house):
                found = [list(cover) for cover in tight_covers(house, list(told))]
                self.assertEqual(found, [ends for ends in covers if plain_excess(house, ends, told) == 0])
                tight += len(found)
                loose += len(covers) - len(found)
        self.assertGreater(tight, 300)
        self.assertGreater(loose, 300)

    def test_a_cover_with_a_sharp_bound(self):
        sharp = 0
        for house in some_houses(80, 222):
            for told in all_counts(house):
                tight = [cover.ends for cover in tight_covers(house, Telling(told))]
                for ends in all_covers(house):
                    for people in subsets(range(house.people)):
                        if bound_of(house, Cover(ends), people) == sum(told[person] for person in people):
                            self.assertIn(tuple(ends), tight)
                            sharp += 1
        self.assertGreater(sharp, 300)


class Settled(Case):
    house = House.all_there(Wants([1, 1, 1, 1]), 3, rest=2)

    def test_nights(self):
        self.assertEqual(settled(self.house, [2, 1, 1], Cover([3])), [(1, 1, True), (0, 1, True), (0, 1, True)])
        self.assertEqual(settled(self.house, [2, 1, 1], Cover([])), [(2, 0, True), (1, 0, True), (1, 0, True)])
        self.assertEqual(settled(self.house, [2, 1, 1], Cover([1, 4])), [(0, 2, True), (0, 1, False), (0, 1, False)])

    def test_nothing_and_nobody(self):
        self.assertEqual(settled(House(Wants([]), []), [], Cover([])), [])
        self.assertEqual(settled(House(Wants([]), [1]), [0], Cover([])), [(0, 0, True)])
        self.assertEqual(settled(House(Wants([1, 0]), [3, 1], rest=60), [0, 1], Cover([2])),
                         [(0, 0, True), (0, 1, True)])

    def test_against_all_plans(self):
        equal = 0
        for house in some_houses(60, 223) + watched_houses(60, 226):
            plans = all_plans(house)
            for told in all_counts(house):
                rows = [plan for plan in plans if counts_in(plan, house.people) == told]
                for cover in tight_covers(house, list(told)):
                    found = settled(house, list(told), cover)
                    for plan in rows:
                        self.look_at(house, told, cover, found, plan)
                    equal += sum(told[person] == ends_from(house, cover, person) for person in range(house.people))
        self.assertGreater(equal, 100)

    def look_at(self, house, told, cover, found, plan):
        outside = plain_outside(house, list(cover))
        for person, (without, within, every) in enumerate(found):
            nights = [night for night, row in enumerate(plan, start=1) if person in row]
            self.assertEqual(without, len([night for night in nights if night in outside]))
            self.assertEqual(without + within, len(nights))
            self.assertIs(every, told[person] >= plain_ends_from(house, list(cover), person))
            if every:
                for end in cover:
                    if end >= house.comings[person]:
                        self.assertEqual(len([night for night in nights if end - house.rest <= night <= end]), 1)

    def test_copies(self):
        told = [2, 1, 1]
        settled(self.house, told, Cover([3])).append(0)
        tight_covers(self.house, told).append(0)
        self.assertEqual(told, [2, 1, 1])
        self.assertEqual([len(settled(self.house, told, Cover([3]))), len(tight_covers(self.house, told))], [3, 4])


class Refused(Case):
    house = House.all_there(Wants([1, 1, 1, 1]), 3, rest=2)

    def test_wrong_lists(self):
        for call, rest in ((tight_covers, []), (settled, [Cover([9])])):
            self.refused(WrongLength(2, 3), call, self.house, [-1, 0], *rest)
            self.refused(BadNumber(2, LIMIT + 1), call, self.house, [1, 1, LIMIT + 1], *rest)
            self.refused(NotPossible("sum", None), call, self.house, Telling([1, 1, 1]), *rest)
            with self.assertRaises(NotPossible) as caught:
                call(self.house, [4, 0, 0], *rest)
            self.assertEqual(caught.exception.reason, "stretches")
            self.assertEqual(caught.exception.cover.ends, judge(self.house, [4, 0, 0]).cover.ends)

    def test_wrong_covers(self):
        self.refused(BadCover(("end", 0)), settled, self.house, [2, 1, 1], Cover([0]))
        self.refused(BadCover(("end", 5)), settled, self.house, [2, 1, 1], Cover([1, 5]))
        self.refused(BadCover(("near", 1, 3)), settled, self.house, [2, 1, 1], Cover([1, 3]))

    def test_loose_covers(self):
        self.refused(BadCover(("loose", -2)), settled, self.house, [2, 1, 1], Cover([1]))
        met = 0
        for house in some_houses(60, 224):
            for told in all_counts(house):
                for ends in all_covers(house):
                    excess = excess_of(house, Cover(ends), told)
                    if excess != 0:
                        self.refused(BadCover(("loose", excess)), settled, house, list(told), Cover(ends))
                        met += 1
        self.assertGreater(met, 100)
