from nightsoff.errors import BadComing, BadNumber, BadRest, NoNight, TooLong
from nightsoff.houses import House
from nightsoff.wants import Wants
from tests.search import Case, large_house

RUN = Wants([2, 1, 2])


class MakingHouses(Case):
    def test_attributes(self):
        house = House(RUN, [1, 4, 2], rest=5)
        self.assertEqual(house.wants.numbers, (2, 1, 2))
        self.assertIsInstance(house.wants, Wants)
        self.assertEqual([house.comings, house.rest], [(1, 4, 2), 5])
        self.assertEqual([house.nights, house.people, house.whole], [3, 3, 5])

    def test_defaults_and_kinds(self):
        self.assertEqual(House(RUN, (1, 2)).rest, 1)
        self.assertEqual(House(RUN, (1, 2)).comings, (1, 2))
        self.assertRaises(TypeError, House, RUN, [1], 1)

    def test_nothing_and_nobody(self):
        house = House(Wants([]), [])
        self.assertEqual([house.nights, house.people, house.whole], [0, 0, 0])
        self.assertEqual(House(Wants([]), [1, 1]).comings, (1, 1))
        self.refused(BadComing(1, 2), House, Wants([]), [1, 2])

    def test_comings(self):
        self.assertEqual(House(RUN, [1, 3, 4]).comings, (1, 3, 4))
        self.refused(BadComing(1, 0), House, RUN, [1, 0, 5])
        self.refused(BadComing(0, 5), House, RUN, [5, 0])
        self.refused(BadComing(0, -1), House, RUN, [-1])

    def test_number_of_people(self):
        self.assertEqual(House(RUN, [1] * 30).people, 30)
        self.refused(TooLong(31), House, RUN, [0] * 31, rest=-1)

    def test_rest(self):
        self.assertEqual([House(RUN, [], rest=0).rest, House(RUN, [], rest=60).rest], [0, 60])
        self.refused(BadRest(61), House, RUN, [1], rest=61)
        self.refused(BadRest(-1), House, RUN, [1], rest=-1)
        self.refused(BadComing(0, 0), House, RUN, [0], rest=-1)

    def test_the_list_is_copied(self):
        comings = [1, 2]
        house = House(RUN, comings)
        comings[0] = 3
        comings.append(1)
        self.assertEqual([house.comings, house.people], [(1, 2), 2])


class AllThere(Case):
    def test_all_there(self):
        house = House.all_there(RUN, 3, rest=0)
        self.assertIsInstance(house, House)
        self.assertEqual([house.comings, house.rest, house.wants.numbers], [(1, 1, 1), 0, (2, 1, 2)])
        self.assertEqual(House.all_there(RUN, 2).rest, 1)
        self.assertEqual(House.all_there(Wants([]), 0).comings, ())
        self.assertEqual(House.all_there(RUN, 30).people, 30)

    def test_checks_in_order(self):
        self.refused(BadNumber(0, -1), House.all_there, RUN, -1, rest=61)
        self.refused(TooLong(31), House.all_there, RUN, 31, rest=61)
        self.refused(TooLong(10 ** 30), House.all_there, RUN, 10 ** 30)
        self.refused(BadRest(61), House.all_there, RUN, 30, rest=61)
        self.refused(BadRest(-1), House.all_there, RUN, 0, rest=-1)


class ChangingHouses(Case):
    house = House(RUN, [1, 4], rest=2)

    def parts(self, house):
        return [house.wants.numbers, house.comings, house.rest]

    def test_each_part(self):
        house = self.house
        self.assertIsInstance(house.changed(), House)
        self.assertEqual(self.parts(house.changed()), [(2, 1, 2), (1, 4), 2])
        self.assertEqual(self.parts(house.changed(wants=Wants([0] * 4))), [(0,) * 4, (1, 4), 2])
        self.assertEqual(self.parts(house.changed(comings=[3])), [(2, 1, 2), (3,), 2])
        self.assertEqual(self.parts(house.changed(comings=())), [(2, 1, 2), (), 2])
        self.assertEqual(self.parts(house.changed(rest=0)), [(2, 1, 2), (1, 4), 0])
        empty = house.changed(wants=Wants([]), comings=[1], rest=60)
        self.assertEqual(self.parts(empty), [(), (1,), 60])

    def test_refused(self):
        self.refused(BadComing(1, 4), self.house.changed, wants=Wants([]) >> 2, rest=61)
        self.refused(BadComing(0, 5), self.house.changed, comings=[5])
        self.refused(BadComing(0, 2), self.house.changed, wants=Wants([]), comings=[2])
        self.refused(TooLong(31), self.house.changed, comings=[0] * 31, rest=-1)
        self.refused(BadRest(61), self.house.changed, rest=61)
        self.assertEqual(self.parts(self.house), [(2, 1, 2), (1, 4), 2])

    def test_only_by_keyword(self):
        self.assertRaises(TypeError, self.house.changed, RUN)


class AskingHouses(Case):
    def test_here(self):
        house = House(RUN, [2, 1, 4, 3])
        self.assertEqual([house.here(night) for night in (1, 2, 3)], [[1], [0, 1], [0, 1, 3]])
        self.assertEqual(House(RUN, []).here(3), [])
        for night in (0, 4, -1):
            self.refused(NoNight(night), house.here, night)
        self.refused(NoNight(1), House(Wants([]), [1]).here, 1)

    def test_here_is_new(self):
        house = House(RUN, [1, 1])
        house.here(1).append(9)
        self.assertEqual(house.here(1), [0, 1])

    def test_stretch(self):
        house = House(Wants([1] * 5), [], rest=2)
        self.assertEqual([house.stretch(end) for end in (1, 2, 3, 4, 5)],
                         [(1, 1), (1, 2), (1, 3), (2, 4), (3, 5)])
        self.assertEqual(house.changed(rest=0).stretch(4), (4, 4))
        self.assertEqual(house.changed(rest=60).stretch(5), (1, 5))
        for end in (0, 6, -1):
            self.refused(NoNight(end), house.stretch, end)

    def test_a_large_house(self):
        house = large_house()
        self.assertEqual([house.nights, house.people], [60, 30])
        self.assertEqual(len(house.here(60)), 29)
        self.assertEqual(house.stretch(60), (58, 60))
