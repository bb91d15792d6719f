from nightsoff.errors import NamedTwice, NoPerson
from nightsoff.firsts import first_choice, growth, most_of, room_left
from nightsoff.houses import House
from nightsoff.wants import Wants
from tests.search import Case, all_counts, large_house, some_houses, subsets


class FirstChoice(Case):
    house = House(Wants([1, 1, 1, 1]), [1, 1, 1], rest=2)

    def test_first_choice(self):
        self.assertEqual(first_choice(self.house, [0]), [1, 0, 0, 1])
        self.assertEqual(first_choice(self.house, [2, 0]), [1, 1, 0, 1])
        self.assertEqual(first_choice(self.house, []), [0, 0, 0, 0])
        self.assertEqual([most_of(self.house, [0]), most_of(self.house, [])], [2, 0])
        self.assertEqual(room_left(self.house, [2, 0]), [0, 0, 1, 0])

    def test_comings(self):
        house = House(Wants([2, 2, 0, 2]), [2, 5, 4], rest=1)
        self.assertEqual(first_choice(house, [0, 1, 2]), [0, 1, 0, 2])
        self.assertEqual(room_left(house, [0, 1, 2]), [2, 1, 0, 0])
        self.assertEqual(most_of(house, [1]), 0)

    def test_nothing_and_nobody(self):
        house = House(Wants([]), [1])
        self.assertEqual([first_choice(house, [0]), room_left(house, [0]), most_of(house, [0])],
                         [[], [], 0])
        house = House(Wants([3, 0]), [])
        self.assertEqual([first_choice(house, []), room_left(house, []), most_of(house, [])],
                         [[0, 0], [3, 0], 0])

    def test_rest_at_its_bounds(self):
        house = House(Wants([1, 2, 3]), [1, 1], rest=0)
        self.assertEqual(first_choice(house, [0, 1]), [1, 2, 2])
        house = House(Wants([1] * 60), [1, 60], rest=60)
        self.assertEqual(first_choice(house, [0, 1]), [1] + [0] * 58 + [1])

    def test_wrong_people(self):
        for ask in (first_choice, room_left, most_of):
            self.refused(NoPerson(3), ask, self.house, [0, 3, 3])
            self.refused(NoPerson(-1), ask, self.house, [-1])
            self.refused(NoPerson(10 ** 30), ask, self.house, [10 ** 30])
            self.refused(NamedTwice(1), ask, self.house, [1, 1, 9])
            self.refused(NamedTwice(0), ask, self.house, [0, 1, 2, 0, -1])
            self.refused(NoPerson(0), ask, House(Wants([1]), []), [0])

    def test_lists_are_new(self):
        people = [2, 0]
        for ask in (first_choice, room_left):
            found = ask(self.house, people)
            ask(self.house, people).clear()
            self.assertEqual(ask(self.house, people), found)
        self.assertEqual(people, [2, 0])

    def test_the_most_against_all_plans(self):
        for house in some_houses(400, 1, nights=5, people=4, want=3):
            counts = all_counts(house, short=True)
            for people in subsets(range(house.people)):
                most = max(sum(found[person] for person in people) for found in counts)
                self.assertEqual(most_of(house, people), most)
                self.assertEqual(most_of(house, people[::-1]), most)

    def test_room_is_the_rest_of_the_want(self):
        for house in some_houses(40, 2):
            for people in subsets(range(house.people)):
                both = zip(room_left(house, people), first_choice(house, people))
                self.assertEqual([one + two for one, two in both], list(house.wants))


def plain_growth(house, people, person):
    taken = first_choice(house, people)
    nights = []
    for night in range(1, house.nights + 1):
        rested = not any(night - house.rest <= past < night for past in nights)
        if night >= house.comings[person] and taken[night - 1] < house.wants[night] and rested:
            nights.append(night)
    return nights


class Growth(Case):
    house = House(Wants([1, 1, 1, 1]), [1, 1, 1], rest=2)

    def test_growth(self):
        self.assertEqual(growth(self.house, [], 0), [1, 4])
        self.assertEqual(growth(self.house, [0], 1), [2])
        self.assertEqual(growth(self.house, [2, 0], 1), [3])
        house = House(Wants([1, 1, 1]), [4, 2, 3], rest=0)
        self.assertEqual([growth(house, [], person) for person in (0, 1, 2)], [[], [2, 3], [3]])
        self.assertEqual(growth(House(Wants([]), [1]), [], 0), [])

    def test_wrong_people(self):
        self.refused(NamedTwice(1), growth, self.house, [1, 1], 9)
        self.refused(NoPerson(5), growth, self.house, [0, 5], 0)
        self.refused(NoPerson(3), growth, self.house, [0], 3)
        self.refused(NoPerson(-1), growth, self.house, [0], -1)
        self.refused(NamedTwice(0), growth, self.house, [1, 0], 0)

    def test_the_list_is_new(self):
        growth(self.house, [], 0).clear()
        self.assertEqual(growth(self.house, [], 0), [1, 4])

    def test_what_growth_says(self):
        for house in some_houses(400, 3, nights=5, people=4, want=3):
            counts = all_counts(house, short=True) if house.nights < 5 else None
            for person in range(house.people):
                others = [other for other in range(house.people) if other != person]
                for people in subsets(others):
                    nights = growth(house, people, person)
                    self.assertEqual(nights, plain_growth(house, people, person))
                    grown = [taken + (night in nights) for night, taken
                             in enumerate(first_choice(house, people), start=1)]
                    self.assertEqual(first_choice(house, people + [person]), grown)
                    for other in others:
                        if other not in people:
                            more = growth(house, people + [other], person)
                            self.assertLessEqual(len(more), len(nights))
                    if counts is not None:
                        most = [max(sum(found[p] for p in group) for found in counts)
                                for group in (people, people + [person])]
                        self.assertEqual(len(nights), most[1] - most[0])

    def test_a_large_house(self):
        for rest in (0, 2, 60):
            house = large_house(rest)
            everybody = list(range(30))
            self.assertEqual(len(first_choice(house, everybody)), 60)
            self.assertLessEqual(most_of(house, everybody), house.whole)
            self.assertEqual(len(growth(house, everybody[1:], 0)),
                             most_of(house, everybody) - most_of(house, everybody[1:]))
