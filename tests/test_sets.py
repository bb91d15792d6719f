from nightsoff.errors import BadNumber, WrongLength
from nightsoff.firsts import most_of
from nightsoff.houses import House
from nightsoff.sets import refusing_set, set_by_set
from nightsoff.settle import settle
from nightsoff.tellings import LIMIT, Telling
from nightsoff.wants import Wants
from tests.search import Case, all_told, large_house, plain_ends_from, some_houses


class Sets(Case):
    house = House.all_there(Wants([1, 1, 1, 1]), 3, rest=2)

    def test_refusing_set(self):
        self.assertEqual(refusing_set(self.house, [3, 1, 0]), [0])
        self.assertEqual(refusing_set(self.house, [0, 2, 2]), [1, 2])
        self.assertIsNone(refusing_set(self.house, [2, 1, 1]))
        self.assertIsNone(refusing_set(self.house, [0, 0, 0]))
        self.assertEqual(refusing_set(self.house, Telling([LIMIT] * 3)), [0, 1, 2])

    def test_set_by_set(self):
        self.assertEqual(set_by_set(self.house, [3, 1, 0]), [0])
        self.assertEqual(set_by_set(self.house, [0, 2, 2]), [1, 2])
        self.assertEqual(set_by_set(self.house, [2, 2, 3]), [0, 1])
        self.assertEqual(set_by_set(self.house, [0, 0, 3]), [2])
        self.assertIsNone(set_by_set(self.house, [2, 1, 1]))
        self.assertEqual(set_by_set(self.house, Telling([LIMIT] * 3)), [0])

    def test_nothing_and_nobody(self):
        for ask in (refusing_set, set_by_set):
            self.assertIsNone(ask(House(Wants([]), []), []))
            self.assertIsNone(ask(House(Wants([]), [1]), [0]))
            self.assertEqual(ask(House(Wants([]), [1]), [1]), [0])
            self.assertIsNone(ask(House(Wants([2]), []), []))

    def test_wrong_lists(self):
        for ask in (refusing_set, set_by_set):
            self.refused(WrongLength(2, 3), ask, self.house, [-1, 0])
            self.refused(WrongLength(4, 3), ask, self.house, Telling([0] * 4))
            self.refused(BadNumber(2, -1), ask, self.house, [0, LIMIT, -1])
            self.refused(BadNumber(0, LIMIT + 1), ask, self.house, [LIMIT + 1, -1, 0])

    def test_lists_stay_as_they_are(self):
        told = [3, 1, 0]
        for ask in (refusing_set, set_by_set):
            ask(self.house, told).clear()
            self.assertEqual(told, [3, 1, 0])
            self.assertEqual(ask(self.house, told), [0])

    def test_what_the_document_says(self):
        for house in some_houses(200, 60):
            for told in all_told(house):
                done = settle(house, told)
                sets = [[person for person in range(house.people) if number & 2 ** person]
                        for number in range(2 ** house.people)]
                over = [people for people in sets
                        if sum(told[person] for person in people) > most_of(house, people)]
                refusing = refusing_set(house, told)
                self.assertEqual(set_by_set(house, told), over[0] if over else None)
                self.assertEqual(refusing is None, done.missing == 0)
                self.assertEqual(over == [], done.missing == 0)
                if refusing is not None:
                    ends = done.cover.ends
                    self.assertEqual(refusing, [person for person, number in enumerate(told)
                                                if number > plain_ends_from(house, ends, person)])
                    together = sum(told[person] for person in refusing)
                    self.assertEqual(together - most_of(house, refusing), done.missing)

    def test_a_large_house(self):
        for rest in (0, 2, 60):
            house = large_house(rest)
            self.assertIsNone(refusing_set(house, [0] * 30))
            self.assertEqual(refusing_set(house, [LIMIT] * 30), list(range(30)))
        house = House.all_there(Wants([2, 1] * 8), 8, rest=2)
        self.assertIsNone(set_by_set(house, [3] * 8))
        self.assertEqual(set_by_set(house, [0] * 7 + [7]), [7])
