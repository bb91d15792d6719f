from nightsoff.drafts import Draft
from nightsoff.errors import NamedTwice, NoNight, NoPerson, NotThere, TooEarly, TooMany, TooSoon
from nightsoff.houses import House
from nightsoff.plans import Plan, plan_faults
from nightsoff.wants import Wants
from tests.search import Case, Numbers, large_house, some_houses

FAR = 10 ** 30


def small_draft(rest=1):
    return Draft(House(Wants([2, 1, 2]), [1, 1, 2], rest=rest))


class Drafts(Case):
    def test_at_first(self):
        draft = small_draft()
        self.assertEqual([len(draft), list(draft)], [3, [(), (), ()]])
        self.assertEqual([draft[1], draft[3], draft.placed, draft.vacant], [(), (), 0, 5])
        empty = Draft(House(Wants([]), []))
        self.assertEqual([len(empty), list(empty), empty.placed, empty.vacant], [0, [], 0, 0])
        self.assertEqual(empty.as_plan().rows, ())

    def test_nights(self):
        draft = small_draft()
        for night in (0, 4, -1, FAR):
            self.refused(NoNight(night), lambda: draft[night])
            self.refused(NoNight(night), draft.__setitem__, night, [9])
            self.refused(NoNight(night), draft.put, night, 9)
            self.refused(NoNight(night), draft.take, night, 9)
        self.refused(NoNight(1), Draft(House(Wants([]), [])).put, 1, 0)

    def test_rows_are_ascending(self):
        draft = small_draft()
        draft[1] = [1, 0]
        draft.put(3, 2)
        draft.put(3, 0)
        self.assertEqual(list(draft), [(0, 1), (), (0, 2)])
        self.assertEqual([draft.placed, draft.vacant], [4, 1])

    def test_the_list_is_copied(self):
        draft = small_draft()
        people = [1, 0]
        draft[1] = people
        self.assertEqual(people, [1, 0])
        people.append(2)
        list(draft).append((7,))
        self.assertEqual(list(draft), [(0, 1), (), ()])

    def test_as_plan(self):
        draft = small_draft()
        draft[1] = [1, 0]
        plan = draft.as_plan()
        self.assertIsInstance(plan, Plan)
        draft.take(1, 0)
        self.assertEqual([plan.rows, draft.as_plan().rows], [((0, 1), (), ()), ((1,), (), ())])

    def test_two_drafts_of_a_house(self):
        house = House(Wants([1]), [1])
        one, two = Draft(house), Draft(house)
        one.put(1, 0)
        self.assertEqual([list(one), list(two)], [[(0,)], [()]])


class ReplacingRows(Case):
    def test_the_old_row_does_not_count(self):
        draft = small_draft()
        draft[1] = [0, 1]
        draft[1] = [1]
        self.assertEqual(draft[1], (1,))
        draft[1] = [1, 0]
        draft[1] = []
        self.assertEqual(draft[1], ())

    def test_each_error(self):
        draft = small_draft()
        draft[2] = [1]
        before = list(draft)
        for people, error in [
                ([3], NoPerson(3)), ([-1], NoPerson(-1)), ([0, FAR], NoPerson(FAR)),
                ([0, 0], NamedTwice(0)), ([2], TooEarly(1, 2)), ([1], TooSoon(1, 1, 2)),
        ]:
            self.refused(error, draft.__setitem__, 1, people)
        self.assertEqual(list(draft), before)
        draft = small_draft()
        self.refused(TooMany(2, 2), draft.__setitem__, 2, [0, 1])
        self.refused(TooMany(2, 3), draft.__setitem__, 2, [2, 1, 0])
        self.assertEqual(list(draft), [(), (), ()])

    def test_the_first_entry_comes_first(self):
        draft = small_draft()
        draft[2] = [1]
        for people, error in [
                ([1, 9], TooSoon(1, 1, 2)), ([9, 1], NoPerson(9)), ([2, 2], TooEarly(1, 2)),
                ([0, 0, 9], NamedTwice(0)), ([0, 2, 0], TooEarly(1, 2)),
                ([9, 9], NoPerson(9)), ([0, 2, 1], TooEarly(1, 2)),
        ]:
            self.refused(error, draft.__setitem__, 1, people)
        self.refused(TooSoon(3, 1, 2), draft.__setitem__, 3, [0, 2, 1])
        self.assertEqual(list(draft), [(), (1,), ()])

    def test_the_least_other_night(self):
        draft = Draft(House(Wants([1] * 7), [1], rest=2))
        draft[2] = [0]
        draft[6] = [0]
        self.refused(TooSoon(4, 0, 2), draft.__setitem__, 4, [0])
        self.refused(TooSoon(5, 0, 6), draft.__setitem__, 5, [0])
        self.refused(TooSoon(1, 0, 2), draft.put, 1, 0)
        self.refused(TooSoon(7, 0, 6), draft.put, 7, 0)
        self.assertEqual(draft.placed, 2)

    def test_early_comes_before_soon(self):
        draft = Draft(House(Wants([1, 1]), [2], rest=1))
        draft.put(2, 0)
        self.refused(TooEarly(1, 0), draft.put, 1, 0)
        self.refused(TooEarly(1, 0), draft.__setitem__, 1, [0])


class PuttingAndTaking(Case):
    def test_put_and_take(self):
        draft = small_draft()
        self.assertIsNone(draft.put(1, 1))
        draft.put(1, 0)
        self.assertEqual([draft[1], draft.placed, draft.vacant], [(0, 1), 2, 3])
        self.assertIsNone(draft.take(1, 1))
        self.assertEqual([draft[1], draft.placed, draft.vacant], [(0,), 1, 4])

    def test_put_refused(self):
        draft = small_draft()
        draft[1] = [0, 1]
        self.refused(NoPerson(3), draft.put, 1, 3)
        self.refused(NoPerson(-1), draft.put, 1, -1)
        self.refused(NamedTwice(0), draft.put, 1, 0)
        self.refused(TooEarly(1, 2), draft.put, 1, 2)
        self.refused(TooSoon(2, 1, 1), draft.put, 2, 1)
        draft.put(2, 2)
        self.refused(TooSoon(2, 0, 1), draft.put, 2, 0)
        self.assertEqual(list(draft), [(0, 1), (2,), ()])
        draft = small_draft()
        draft.put(2, 0)
        self.refused(TooMany(2, 2), draft.put, 2, 1)
        self.refused(TooMany(1, 1), Draft(House(Wants([0]), [1])).put, 1, 0)
        self.assertEqual(list(draft), [(), (0,), ()])

    def test_take_refused(self):
        draft = small_draft()
        draft[1] = [0]
        self.refused(NoPerson(3), draft.take, 1, 3)
        self.refused(NotThere(1, 1), draft.take, 1, 1)
        self.refused(NotThere(2, 0), draft.take, 2, 0)
        self.assertEqual(list(draft), [(0,), (), ()])

    def test_rest_at_its_bounds(self):
        draft = Draft(House(Wants([1] * 3), [1], rest=0))
        for night in (1, 2, 3):
            draft.put(night, 0)
        self.assertEqual([draft.placed, draft.vacant], [3, 0])
        draft = Draft(House(Wants([1] * 60), [1], rest=60))
        draft.put(60, 0)
        self.refused(TooSoon(1, 0, 60), draft.put, 1, 0)

    def test_a_draft_always_fits_short(self):
        numbers = Numbers(8)
        for house in some_houses(150, 9):
            draft = Draft(house)
            for _ in range(40 if house.nights else 0):
                night = numbers.between(1, house.nights)
                before = list(draft)
                people = numbers.several(numbers.below(3), 0, 2)
                try:
                    if numbers.below(4) == 0:
                        draft[night] = people
                    elif numbers.below(3) == 0:
                        draft.take(night, numbers.below(3))
                    else:
                        draft.put(night, numbers.below(3))
                except ValueError:
                    self.assertEqual(list(draft), before)
                self.assertEqual(plan_faults(house, draft.as_plan(), short=True), [])
                self.assertEqual(draft.placed, sum(map(len, draft)))
                self.assertEqual(draft.vacant, house.whole - draft.placed)

    def test_a_refusal_follows_from_the_faults(self):
        """Whoever may be put gives a plan that fits short, nobody else does."""
        for house in some_houses(150, 10, nights=6):
            draft = Draft(house)
            for step in range(12 if house.nights and house.people else 0):
                night, person = 1 + step * 5 % house.nights, step * 7 % house.people
                rows = [list(row) for row in draft]
                rows[night - 1].append(person)
                fits = plan_faults(house, Plan(rows), short=True) == []
                try:
                    draft.put(night, person)
                    self.assertTrue(fits)
                except ValueError:
                    self.assertFalse(fits)

    def test_a_large_house(self):
        house = large_house()
        draft = Draft(house)
        for night in range(1, 61):
            for person in range(30):
                try:
                    draft.put(night, person)
                except ValueError:
                    pass
        self.assertGreater(draft.placed, 100)
        self.assertEqual(plan_faults(house, draft.as_plan(), short=True), [])
