from nightsoff.errors import BadNumber, WrongLength
from nightsoff.houses import House
from nightsoff.judge import can_be_true
from nightsoff.slips import one_slip, two_slips
from nightsoff.tellings import LIMIT, Telling
from nightsoff.wants import Wants
from tests.search import Case, all_counts, all_told, some_houses


def plain_one_slip(house, counts, told):
    """All misread numbers up to one more than the whole and the told one."""
    return [(person, number) for person in range(house.people)
            for number in range(sum(house.wants) + 2)
            if number != told[person] and tuple(told[:person] + [number] + told[person + 1:]) in counts]


def plain_two_slips(house, counts, told):
    found = []
    for giver in range(house.people):
        for taker in range(house.people):
            kept = []
            for count in range(1, told[giver] + 1):
                moved = list(told)
                moved[giver] -= count
                moved[taker] += count
                if giver != taker and tuple(moved) in counts:
                    kept.append(count)
            if kept:
                assert kept == list(range(kept[0], kept[-1] + 1))
                found.append((giver, taker, kept[0], kept[-1]))
    return found


class OneSlip(Case):
    house = House.all_there(Wants([1, 1, 1, 1]), 3, rest=2)

    def test_one_slip(self):
        self.assertEqual(one_slip(self.house, [2, 2, 1]), [(0, 1), (1, 1)])
        self.assertEqual(one_slip(self.house, [2, 1, 0]), [(2, 1)])
        self.assertEqual(one_slip(self.house, Telling([LIMIT, 1, 1])), [(0, 2)])
        self.assertEqual(one_slip(self.house, [LIMIT, LIMIT, 1]), [])

    def test_the_right_sum_has_no_slip(self):
        self.assertEqual(one_slip(self.house, [2, 1, 1]), [])
        self.assertEqual(one_slip(self.house, [4, 0, 0]), [])

    def test_nothing_and_nobody(self):
        self.assertEqual(one_slip(House(Wants([1]), []), []), [])
        self.assertEqual(one_slip(House(Wants([]), [1, 1]), [0, 3]), [(1, 0)])

    def test_against_all_misread_numbers(self):
        for house in some_houses(120, 91):
            counts = set(all_counts(house))
            for told in all_told(house):
                self.assertEqual(one_slip(house, told), plain_one_slip(house, counts, told))


class TwoSlips(Case):
    house = House.all_there(Wants([1, 1, 1, 1]), 3, rest=2)

    def test_two_slips(self):
        self.assertEqual(two_slips(self.house, [3, 1, 0]), [(0, 2, 1, 2)])
        self.assertEqual(two_slips(self.house, [2, 1, 1]), [(0, 1, 1, 1), (0, 2, 1, 1)])
        self.assertEqual(two_slips(self.house, [4, 0, 0]), [])
        free = House.all_there(Wants([2, 2, 2]), 3, rest=0)
        self.assertEqual(two_slips(free, Telling([0, 6, 0])), [(1, 0, 3, 3), (1, 2, 3, 3)])
        self.assertEqual(two_slips(free, [5, 1, 0]), [(0, 1, 2, 2), (0, 2, 2, 3)])
        self.assertEqual(two_slips(free, [1, 4, 1]), [(1, 0, 1, 2), (1, 2, 1, 2)])

    def test_another_sum_has_none(self):
        self.assertEqual(two_slips(self.house, [2, 1, 0]), [])
        self.assertEqual(two_slips(self.house, [LIMIT, LIMIT, LIMIT]), [])

    def test_nothing_and_nobody(self):
        self.assertEqual(two_slips(House(Wants([]), []), []), [])
        self.assertEqual(two_slips(House(Wants([]), [1, 1]), [0, 0]), [])

    def test_against_all_moves(self):
        met = 0
        for house in some_houses(150, 92):
            counts = set(all_counts(house))
            for told in all_told(house):
                found = two_slips(house, told)
                if sum(told) == house.whole:
                    self.assertEqual(found, plain_two_slips(house, counts, told))
                    met += any(least < greatest for _, _, least, greatest in found)
                else:
                    self.assertEqual(found, [])
        self.assertGreater(met, 20)

    def test_larger_houses_against_verdicts(self):
        house = House(Wants([2, 1, 2, 1, 2, 1, 0, 2]), [1, 1, 2, 3], rest=1)
        for told in ([4, 4, 2, 1], [3, 3, 3, 2], [2, 4, 4, 1], [6, 2, 2, 1], [0, 4, 4, 3]):
            for giver in range(4):
                for taker in range(4):
                    kept = [count for count in range(1, told[giver] + 1) if giver != taker and can_be_true(
                        house, list(Telling(told).moved(giver, taker, count)))]
                    listed = [slip for slip in two_slips(house, told) if slip[:2] == (giver, taker)]
                    self.assertEqual(listed, [(giver, taker, kept[0], kept[-1])] if kept else [])


class WrongLists(Case):
    def test_wrong_lists(self):
        house = House(Wants([1, 1]), [1, 1])
        for ask in (one_slip, two_slips):
            self.refused(WrongLength(1, 2), ask, house, [-1])
            self.refused(WrongLength(3, 2), ask, house, Telling([1, 1, 1]))
            self.refused(BadNumber(0, -1), ask, house, [-1, LIMIT + 1])
            self.refused(BadNumber(1, LIMIT + 1), ask, house, [0, LIMIT + 1])

    def test_the_list_stays_as_it_is(self):
        told = [2, 0]
        one_slip(House(Wants([1, 1]), [1, 1]), told)
        two_slips(House(Wants([1, 1]), [1, 1]), told).append(1)
        self.assertEqual(told, [2, 0])
        self.assertEqual(two_slips(House(Wants([1, 1]), [1, 1]), told), [(0, 1, 1, 1)])
