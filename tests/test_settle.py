import itertools

from nightsoff.covers import Cover, cover_fault
from nightsoff.errors import BadNumber, WrongLength
from nightsoff.houses import House
from nightsoff.plans import Plan, counts_of, plan_faults
from nightsoff.settle import Settlement, settle
from nightsoff.tellings import LIMIT, Telling
from nightsoff.wants import Wants
from tests.search import Case, Numbers, large_house, plain_outside, some_houses


def plain_settle(house, told):
    """The rows of settling and the ends of leading back, after points 21 and 22."""
    n, left, rows, before = house.nights, list(told), [], []
    for night in range(1, n + 1):
        before.append(list(left))
        row = []
        while len(row) < house.wants[night]:
            ready = [person for person in range(house.people)
                     if house.comings[person] <= night and left[person] >= 1 and person not in row
                     and not any(person in rows[past - 1]
                                 for past in range(max(1, night - house.rest), night))]
            if not ready:
                break
            row.append(max(ready, key=lambda person: (left[person], -person)))
        for person in row:
            left[person] -= 1
        rows.append(sorted(row))
    ends = []
    for night in range(n, 0, -1):
        if night in plain_outside(house, ends):
            full = len(rows[night - 1]) == house.wants[night]
            if not (full and all(before[night - 1][person] > len(ends) for person in rows[night - 1])):
                ends.append(night)
    return rows, sorted(ends)


def told_lists(house, seed, count):
    """Told numbers: small ones, those of a fitting sum among them, and the limits."""
    numbers = Numbers(seed)
    lists = [numbers.several(house.people, 0, house.nights + 1) for _ in range(count)]
    return lists + [[0] * house.people, [LIMIT] * house.people]


class Settling(Case):
    house = House.all_there(Wants([1, 1, 1, 1]), 3, rest=2)

    def parts(self, done):
        return [done.plan.rows, done.strangers, done.unkept, done.missing, done.cover.ends]

    def test_kinds(self):
        done = settle(self.house, [3, 1, 0])
        self.assertIsInstance(done, Settlement)
        self.assertIsInstance(done.plan, Plan)
        self.assertIsInstance(done.cover, Cover)
        self.assertIsInstance(done.strangers, tuple)
        self.assertIsInstance(done.unkept, tuple)
        self.assertEqual(self.parts(done), [((0,), (1,), (), (0,)), (0, 0, 1, 0), (1, 0, 0), 1, (3,)])

    def test_nothing_is_missing(self):
        self.assertEqual(self.parts(settle(self.house, [2, 1, 1])),
                         [((0,), (1,), (2,), (0,)), (0, 0, 0, 0), (0, 0, 0), 0, ()])

    def test_a_telling(self):
        self.assertEqual(self.parts(settle(self.house, Telling([3, 1, 0]))),
                         self.parts(settle(self.house, [3, 1, 0])))

    def test_most_left_first_then_the_lower_person(self):
        house = House(Wants([2, 1]), [1, 1, 1, 1], rest=0)
        self.assertEqual(settle(house, [1, 2, 1, 3]).plan.rows, ((1, 3), (3,)))
        self.assertEqual(settle(house, [1, 1, 1, 1]).plan.rows, ((0, 1), (2,)))
        self.assertEqual(settle(house, [0, 0, 2, 2]).plan.rows, ((2, 3), (2,)))

    def test_told_numbers_at_the_bounds(self):
        done = settle(House(Wants([1, 1]), [1, 1, 3], rest=0), [LIMIT, 0, LIMIT])
        self.assertEqual(self.parts(done),
                         [((0,), (0,)), (0, 0), (LIMIT - 2, 0, LIMIT), 2 * LIMIT - 2, ()])

    def test_nothing_and_nobody(self):
        self.assertEqual(self.parts(settle(House(Wants([]), [1]), [4])), [(), (), (4,), 4, ()])
        self.assertEqual(self.parts(settle(House(Wants([2, 0]), []), [])),
                         [((), ()), (2, 0), (), 0, (1,)])
        self.assertEqual(self.parts(settle(House(Wants([]), []), [])), [(), (), (), 0, ()])

    def test_rest_at_its_bounds(self):
        done = settle(House(Wants([1] * 3), [1], rest=0), [2])
        self.assertEqual(self.parts(done), [((0,), (0,), ()), (0, 0, 1), (0,), 0, (1, 2, 3)])
        done = settle(House(Wants([1] * 3), [1], rest=60), [2])
        self.assertEqual(self.parts(done), [((0,), (), ()), (0, 1, 1), (1,), 1, (3,)])

    def test_wrong_lists(self):
        self.refused(WrongLength(2, 3), settle, self.house, [-1, -1])
        self.refused(WrongLength(4, 3), settle, self.house, Telling([0] * 4))
        self.refused(BadNumber(1, -1), settle, self.house, [0, -1, LIMIT + 1])
        self.refused(BadNumber(0, LIMIT + 1), settle, self.house, [LIMIT + 1, -1, 0])

    def test_the_list_stays_as_it_is(self):
        told = [3, 1, 0]
        settle(self.house, told)
        self.assertEqual(told, [3, 1, 0])

    def test_what_the_document_says(self):
        for seed, house in enumerate(some_houses(300, 40, nights=7, people=5, want=3)):
            for told in told_lists(house, seed, 8):
                done = settle(house, told)
                rows, ends = plain_settle(house, told)
                self.assertEqual([list(row) for row in done.plan], rows)
                self.assertEqual(list(done.cover), ends)
                self.assertEqual(plan_faults(house, done.plan, short=True), [])
                self.assertIsNone(cover_fault(house, done.cover))
                kept = counts_of(house, done.plan)
                self.assertEqual([a + b for a, b in zip(kept, done.unkept)], told)
                self.assertEqual(done.missing, sum(done.unkept))
                self.assertEqual([len(row) + more for row, more in zip(rows, done.strangers)],
                                 list(house.wants))

    def test_a_large_house(self):
        for rest, number in itertools.product((0, 2, 60), (0, 5, 60, LIMIT)):
            house = large_house(rest)
            done = settle(house, [number] * 30)
            self.assertEqual(plan_faults(house, done.plan, short=True), [])
            self.assertIsNone(cover_fault(house, done.cover))
