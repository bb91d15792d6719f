from nightsoff.covers import Cover
from nightsoff.errors import BadNumber, NoNight, WrongLength
from nightsoff.extra import extra_wants
from nightsoff.houses import House
from nightsoff.settle import settle
from nightsoff.tellings import LIMIT, Telling
from nightsoff.wants import Wants
from tests.search import Case, all_covers, all_told, plain_excess, plain_outside, some_houses


def plain_extra(house, told, night):
    """Raise the want of the night one by one, up to the number of people."""
    for more in range(house.people + 1):
        wants = list(house.wants)
        wants[night - 1] += more
        if settle(House(Wants(wants), house.comings, rest=house.rest), told).missing == 0:
            return more
    return None


class Extra(Case):
    def test_extra_wants(self):
        house = House.all_there(Wants([1, 0, 1]), 2, rest=1)
        number, cover = extra_wants(house, [2, 1], 2)
        self.assertEqual([number, list(cover)], [1, []])
        self.assertEqual(extra_wants(house, [1, 1], 2), (0, None))
        self.assertEqual(extra_wants(house, [0, 0], 1), (0, None))
        self.assertEqual(extra_wants(house, Telling([2, 0]), 3), (0, None))
        number, cover = extra_wants(house, [3, 0], 2)
        self.assertIsNone(number)
        self.assertEqual(plain_excess(house, list(cover), [3, 0]), 1)

    def test_more_than_a_night_can_want(self):
        house = House.all_there(Wants([29]), 30, rest=0)
        number, cover = extra_wants(house, [1] * 30, 1)
        self.assertEqual([number, list(cover)], [1, []])
        house = House(Wants([30, 0]), [1] * 30, rest=0)
        number, cover = extra_wants(house, [2] * 30, 2)
        self.assertEqual([number, list(cover)], [30, []])
        # Night 1 wants 30 already; no plan helps, however great the want.
        number, cover = extra_wants(house, [2] * 30, 1)
        self.assertEqual([number, list(cover)], [None, [1]])

    def test_great_numbers(self):
        house = House.all_there(Wants([1, 1]), 2, rest=0)
        number, cover = extra_wants(house, [LIMIT, LIMIT], 1)
        self.assertIsNone(number)
        self.assertNotIn(1, plain_outside(house, list(cover)))
        self.assertGreater(plain_excess(house, list(cover), [LIMIT, LIMIT]), 0)

    def test_nobody(self):
        self.assertEqual(extra_wants(House(Wants([1]), []), [], 1), (0, None))

    def test_against_raising_the_want(self):
        met = set()
        for house in some_houses(90, 151):
            covers = all_covers(house)
            for told in all_told(house):
                for night in range(1, house.nights + 1):
                    number, cover = extra_wants(house, told, night)
                    self.assertEqual(number, plain_extra(house, told, night))
                    met.add(number)
                    if number == 0:
                        self.assertIsNone(cover)
                        continue
                    self.assertIsInstance(cover, Cover)
                    self.assertIn(list(cover), covers)
                    excess = plain_excess(house, list(cover), told)
                    if number is None:
                        self.assertNotIn(night, plain_outside(house, list(cover)))
                        self.assertGreater(excess, 0)
                    else:
                        self.assertIn(night, plain_outside(house, list(cover)))
                        self.assertEqual(excess, number)
        self.assertTrue({None, 0, 1, 2} <= met)

    def test_wrong_arguments(self):
        house = House(Wants([1, 1]), [1, 1])
        self.refused(WrongLength(3, 2), extra_wants, house, [-1, 0, 0], 0)
        self.refused(BadNumber(1, -1), extra_wants, house, [0, -1], 0)
        self.refused(BadNumber(0, LIMIT + 1), extra_wants, house, [LIMIT + 1, 0], 3)
        for night in (0, 3, -1):
            self.refused(NoNight(night), extra_wants, house, [1, 1], night)
        self.refused(NoNight(1), extra_wants, House(Wants([]), []), [], 1)

    def test_nothing_is_changed(self):
        told = [2, 1]
        house = House.all_there(Wants([1, 0, 1]), 2, rest=1)
        extra_wants(house, told, 2)
        self.assertEqual([told, house.wants.numbers], [[2, 1], (1, 0, 1)])
