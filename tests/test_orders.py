import itertools

from nightsoff.errors import NamedTwice, NoPerson, WrongLength
from nightsoff.firsts import growth, most_of
from nightsoff.houses import House
from nightsoff.orders import one_after_another, order_counts
from nightsoff.plans import Plan, plan_faults
from nightsoff.wants import Wants
from tests.search import Case, large_house, some_houses


class Orders(Case):
    house = House.all_there(Wants([1, 1, 1, 1]), 3, rest=2)

    def test_one_after_another(self):
        plan = one_after_another(self.house, [0, 1, 2])
        self.assertIsInstance(plan, Plan)
        self.assertEqual(plan.rows, ((0,), (1,), (2,), (0,)))
        self.assertEqual(one_after_another(self.house, [2, 0, 1]).rows, ((2,), (0,), (1,), (2,)))

    def test_counts_are_by_person(self):
        self.assertEqual(order_counts(self.house, [0, 1, 2]), [2, 1, 1])
        self.assertEqual(order_counts(self.house, [2, 0, 1]), [1, 1, 2])

    def test_rows_are_ascending(self):
        house = House(Wants([3, 0, 2]), [1, 1, 1], rest=1)
        self.assertEqual(one_after_another(house, [2, 0, 1]).rows, ((0, 1, 2), (), (0, 2)))

    def test_nothing_and_nobody(self):
        house = House(Wants([]), [1, 1])
        self.assertEqual([one_after_another(house, [1, 0]).rows, order_counts(house, [1, 0])],
                         [(), [0, 0]])
        house = House(Wants([2, 0]), [])
        self.assertEqual([one_after_another(house, []).rows, order_counts(house, [])],
                         [((), ()), []])

    def test_wrong_orders(self):
        for ask in (one_after_another, order_counts):
            self.refused(NoPerson(3), ask, self.house, [0, 3])
            self.refused(NoPerson(-1), ask, self.house, [-1])
            self.refused(NamedTwice(1), ask, self.house, [1, 1])
            self.refused(NamedTwice(0), ask, self.house, [0, 1, 2, 0])
            self.refused(WrongLength(2, 3), ask, self.house, [2, 0])
            self.refused(WrongLength(0, 3), ask, self.house, [])

    def test_arguments_and_answers_are_apart(self):
        order = [2, 0, 1]
        one_after_another(self.house, order)
        order_counts(self.house, order).clear()
        self.assertEqual(order, [2, 0, 1])
        self.assertEqual(order_counts(self.house, order), [1, 1, 2])

    def test_what_the_document_says(self):
        for house in some_houses(120, 30, nights=6, people=4, want=3):
            for order in map(list, itertools.permutations(range(house.people))):
                plan = one_after_another(house, order)
                counts = order_counts(house, order)
                self.assertEqual(plan_faults(house, plan, short=True), [])
                self.assertEqual([sorted(row) for row in plan], [list(row) for row in plan])
                for place, person in enumerate(order):
                    nights = plan.nights_of(person)
                    self.assertEqual(nights, growth(house, order[:place], person))
                    self.assertEqual(counts[person], len(nights))
                    first = order[:place + 1]
                    self.assertEqual(sum(counts[one] for one in first), most_of(house, first))

    def test_a_large_house(self):
        for rest in (0, 2, 60):
            house = large_house(rest)
            order = list(range(29, -1, -1))
            self.assertEqual(sum(order_counts(house, order)), most_of(house, order))
            plan = one_after_another(house, order)
            self.assertEqual(plan_faults(house, plan, short=True), [])
