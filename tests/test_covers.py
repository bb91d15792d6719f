import itertools

from nightsoff.covers import (
    Cover, bound_of, cover_fault, ends_from, most_stretches, outside_nights, stretches_of)
from nightsoff.errors import BadCover, NamedTwice, NoPerson
from nightsoff.houses import House
from nightsoff.wants import Wants
from tests.search import (
    Case, all_counts, all_covers, large_house, plain_ends_from, plain_outside, some_houses, subsets)

FAR = 10 ** 30


class Covers(Case):
    def test_as_a_sequence(self):
        cover = Cover([3, 1, 3])
        self.assertEqual([cover.ends, len(cover), list(cover)], [(3, 1, 3), 3, [3, 1, 3]])
        self.assertEqual([Cover([]).ends, len(Cover([])), list(Cover([]))], [(), 0, []])

    def test_in(self):
        cover = Cover([3, FAR])
        self.assertIs(3 in cover, True)
        self.assertIs(FAR in cover, True)
        self.assertIs(1 in cover, False)
        self.assertIs(0 in Cover([]), False)

    def test_the_list_is_copied(self):
        ends = [1, 3]
        cover = Cover(ends)
        ends.append(5)
        self.assertEqual(cover.ends, (1, 3))

    def test_most_stretches(self):
        def most(nights, rest):
            return most_stretches(House(Wants([0] * nights), [], rest=rest))
        self.assertEqual([most(0, 0), most(0, 60), most(1, 60), most(5, 0), most(60, 0)],
                         [0, 0, 1, 5, 60])
        self.assertEqual([most(4, 2), most(3, 2), most(6, 2), most(7, 2), most(60, 60)],
                         [2, 1, 2, 3, 1])

    def test_most_stretches_against_all_covers(self):
        for house in some_houses(100, 20, nights=7):
            self.assertEqual(most_stretches(house), max(map(len, all_covers(house))))


class CoverFaults(Case):
    house = House(Wants([1, 1, 1, 1]), [1, 2, 5], rest=1)

    def fault(self, ends, house=None):
        return cover_fault(house or self.house, Cover(ends))

    def test_covers_that_fit(self):
        for ends in ([], [1], [4], [1, 3], [1, 4], [2, 4]):
            self.assertIsNone(self.fault(ends))
        self.assertIsNone(self.fault([], House(Wants([]), [])))
        self.assertIsNone(self.fault([1, 2, 3, 4], self.house.changed(rest=0)))
        self.assertIsNone(self.fault([4], self.house.changed(rest=60)))

    def test_end(self):
        for end in (0, 5, -1, FAR):
            self.assertEqual(self.fault([end]), ("end", end))
        self.assertEqual(self.fault([1, 5]), ("end", 5))
        self.assertEqual(self.fault([1, 0]), ("end", 0))
        self.assertEqual(self.fault([1], House(Wants([]), [1])), ("end", 1))

    def test_near(self):
        self.assertEqual(self.fault([1, 2]), ("near", 1, 2))
        self.assertEqual(self.fault([3, 3]), ("near", 3, 3))
        self.assertEqual(self.fault([4, 1]), ("near", 4, 1))
        self.assertEqual(self.fault([2, 2], self.house.changed(rest=0)), ("near", 2, 2))
        self.assertEqual(self.fault([3, 2], self.house.changed(rest=0)), ("near", 3, 2))
        self.assertEqual(self.fault([1, 4], self.house.changed(rest=3)), ("near", 1, 4))
        self.assertIsNone(self.fault([1, 4], self.house.changed(rest=2)))

    def test_the_first_fault_counts(self):
        self.assertEqual(self.fault([1, 2, 9]), ("near", 1, 2))
        self.assertEqual(self.fault([9, 1, 2]), ("end", 9))
        self.assertEqual(self.fault([1, 3, 4, 4]), ("near", 3, 4))

    def test_against_all_covers(self):
        for house in some_houses(60, 21, nights=5):
            fitting = all_covers(house)
            for size in range(4):
                for ends in itertools.product(range(house.nights + 2), repeat=size):
                    fits = cover_fault(house, Cover(list(ends))) is None
                    self.assertIs(fits, list(ends) in fitting)


class AskingCovers(Case):
    house = House(Wants([1, 2, 3, 4, 5, 6]), [1, 3, 7, 5], rest=1)

    def test_answers(self):
        cover = Cover([1, 4])
        self.assertEqual(outside_nights(self.house, cover), [2, 5, 6])
        self.assertEqual(stretches_of(self.house, cover), [(1, 1), (3, 4)])
        self.assertEqual([ends_from(self.house, cover, person) for person in range(4)], [2, 1, 0, 0])
        self.assertEqual(bound_of(self.house, cover, [0, 1]), 2 + 5 + 6 + 2 + 1)
        self.assertEqual(bound_of(self.house, cover, [1]), 14)
        self.assertEqual(bound_of(self.house, cover, []), 13)

    def test_comings_and_ends_at_the_bounds(self):
        house = House(Wants([1, 1, 1]), [1, 3, 4], rest=1)
        self.assertEqual([ends_from(house, Cover([1, 3]), person) for person in range(3)], [2, 1, 0])
        self.assertEqual([outside_nights(house, Cover([1])), outside_nights(house, Cover([3]))],
                         [[2, 3], [1]])

    def test_rest_at_its_bounds(self):
        house = self.house.changed(rest=0)
        self.assertEqual(outside_nights(house, Cover([2, 3])), [1, 4, 5, 6])
        self.assertEqual(stretches_of(house, Cover([2, 3])), [(2, 2), (3, 3)])
        house = self.house.changed(rest=60)
        self.assertEqual(outside_nights(house, Cover([2])), [3, 4, 5, 6])
        self.assertEqual(stretches_of(house, Cover([6])), [(1, 6)])

    def test_nothing_and_nobody(self):
        house = House(Wants([]), [1])
        self.assertEqual([outside_nights(house, Cover([])), stretches_of(house, Cover([]))], [[], []])
        self.assertEqual([ends_from(house, Cover([]), 0), bound_of(house, Cover([]), [0])], [0, 0])
        self.assertEqual(bound_of(House(Wants([4]), []), Cover([]), []), 4)

    def test_a_bad_cover_comes_first(self):
        for ends, fault in (([7], ("end", 7)), ([1, 2], ("near", 1, 2))):
            cover, error = Cover(ends), BadCover(fault)
            self.refused(error, outside_nights, self.house, cover)
            self.refused(error, stretches_of, self.house, cover)
            self.refused(error, ends_from, self.house, cover, 9)
            self.refused(error, bound_of, self.house, cover, [9])

    def test_wrong_people(self):
        cover = Cover([1])
        self.refused(NoPerson(4), ends_from, self.house, cover, 4)
        self.refused(NoPerson(-1), ends_from, self.house, cover, -1)
        self.refused(NoPerson(4), bound_of, self.house, cover, [0, 4, 4])
        self.refused(NamedTwice(1), bound_of, self.house, cover, [1, 1, 9])

    def test_lists_are_new(self):
        cover = Cover([1, 4])
        outside_nights(self.house, cover).clear()
        stretches_of(self.house, cover).clear()
        self.assertEqual(outside_nights(self.house, cover), [2, 5, 6])
        self.assertEqual(stretches_of(self.house, cover), [(1, 1), (3, 4)])

    def test_no_plan_exceeds_a_bound(self):
        for house in some_houses(120, 22):
            counts = all_counts(house, short=True)
            for ends in all_covers(house):
                cover, outside = Cover(ends), plain_outside(house, ends)
                self.assertEqual(outside_nights(house, cover), outside)
                for people in subsets(range(house.people)):
                    most = max(sum(found[person] for person in people) for found in counts)
                    bound = sum(house.wants[night] for night in outside)
                    bound += sum(plain_ends_from(house, ends, person) for person in people)
                    self.assertEqual(bound_of(house, cover, people), bound)
                    self.assertLessEqual(most, bound)

    def test_a_large_house(self):
        house = large_house(rest=0)
        cover = Cover(list(range(1, 61)))
        self.assertEqual(outside_nights(house, cover), [])
        self.assertEqual(len(stretches_of(house, cover)), 60)
        self.assertEqual(bound_of(house, cover, list(range(30))),
                         sum(61 - coming for coming in house.comings))
