from nightsoff.errors import BadPlan, NoNight
from nightsoff.houses import House
from nightsoff.plans import Plan, counts_of, plan_faults, walk_plan
from nightsoff.wants import Wants
from tests.search import Case, all_plans, counts_in, large_house, some_houses, subsets

FAR = 10 ** 30


class Plans(Case):
    def test_rows(self):
        plan = Plan([[1, 0], [], [5]])
        self.assertEqual(plan.rows, ((1, 0), (), (5,)))
        self.assertEqual([len(plan), list(plan)], [3, [(1, 0), (), (5,)]])
        self.assertEqual([plan[1], plan[2], plan[3]], [(1, 0), (), (5,)])
        self.assertEqual([len(Plan([])), list(Plan([])), Plan([]).rows], [0, [], ()])

    def test_nights(self):
        for night in (0, 3, -1, FAR):
            self.refused(NoNight(night), lambda: Plan([[0], [1]])[night])
        self.refused(NoNight(1), lambda: Plan([])[1])

    def test_reverse_and_plus(self):
        one, two = Plan([[1, 0], [2]]), Plan([[3]])
        self.assertIsInstance(-one, Plan)
        self.assertIsInstance(one + two, Plan)
        self.assertEqual([(-one).rows, (-Plan([])).rows], [((2,), (1, 0)), ()])
        self.assertEqual([(one + two).rows, (two + one).rows],
                         [((1, 0), (2,), (3,)), ((3,), (1, 0), (2,))])
        self.assertEqual([one.rows, two.rows], [((1, 0), (2,)), ((3,),)])

    def test_nights_of(self):
        plan = Plan([[0, 1], [], [1, 1], [-5, FAR]])
        self.assertEqual([plan.nights_of(person) for person in (0, 1, 2, -5, FAR, -1)],
                         [[1], [1, 3], [], [4], [4], []])
        plan.nights_of(1).append(9)
        self.assertEqual(plan.nights_of(1), [1, 3])

    def test_the_lists_are_copied(self):
        rows = [[0], [1]]
        plan = Plan(rows)
        rows[0].append(5)
        rows.append([2])
        self.assertEqual(plan.rows, ((0,), (1,)))


class Faults(Case):
    house = House(Wants([2, 1, 2]), [1, 1, 2], rest=1)

    def faults(self, rows, house=None):
        """The faults, with `short` left out, which is the same as False."""
        found = plan_faults(house or self.house, Plan(rows))
        self.assertEqual(plan_faults(house or self.house, Plan(rows), short=False), found)
        return found

    def short_faults(self, rows, house=None):
        return plan_faults(house or self.house, Plan(rows), short=True)

    def both(self, rows, wanted, house=None):
        self.assertEqual(self.faults(rows, house), wanted)
        self.assertEqual(self.short_faults(rows, house), wanted)

    def test_no_faults(self):
        self.both([[1, 0], [2], [0, 1]], [])
        self.both([], [], House(Wants([]), [1]))
        self.both([[], []], [], House(Wants([0, 0]), []))

    def test_short_is_by_keyword(self):
        self.assertRaises(TypeError, plan_faults, self.house, Plan([]), True)

    def test_length(self):
        self.both([[0, 1], [9, 9]], [("length", 2, 3)])
        self.both([], [("length", 0, 3)])
        self.both([[9]] * 4, [("length", 4, 3)])
        self.both([[]], [("length", 1, 0)], House(Wants([]), []))

    def test_stranger(self):
        self.both([[0, 3, 1], [2], [0, 1]], [("stranger", 1, 3)])
        self.both([[0, -1, 1], [2], [-3, 0, 1]], [("stranger", 1, -1), ("stranger", 3, -3)])
        self.both([[]], [], House(Wants([0]), []))
        self.both([[0]], [("stranger", 1, 0)], House(Wants([0]), []))

    def test_a_far_entry_given_twice(self):
        self.both([[FAR, 0, FAR, 1], [2], [0, 1]], [("stranger", 1, FAR)] * 2)
        self.both([[0, 1], [-FAR, -FAR, 2], [0, 1]], [("stranger", 2, -FAR)] * 2)

    def test_twice(self):
        self.both([[0, 1, 0, 0], [2], [0, 1]], [("twice", 1, 0)] * 2)

    def test_twice_gives_no_further_faults(self):
        self.both([[2, 0, 2], [1], [0, 2]], [("early", 1, 2), ("twice", 1, 2)])
        self.both([[0, 1], [1, 1], [0, 2]], [("rest", 2, 1, 1), ("twice", 2, 1)])

    def test_early(self):
        self.both([[2, 0], [1], [0, 2]], [("early", 1, 2)])
        house = House(Wants([0, 1]), [2, 3])
        self.both([[], [0]], [], house)
        self.both([[], [1]], [("early", 2, 1)], house)

    def test_rest(self):
        self.both([[0, 1], [1], [0, 2]], [("rest", 2, 1, 1)])
        self.both([[0, 1], [2], [2, 0]], [("rest", 3, 2, 2)])

    def test_rest_tells_the_latest_night(self):
        house = House(Wants([1] * 4), [1], rest=2)
        self.assertEqual(self.short_faults([[0], [0], [0], [0]], house),
                         [("rest", 2, 0, 1), ("rest", 3, 0, 2), ("rest", 4, 0, 3)])
        self.assertEqual(self.short_faults([[0], [0], [], [0]], house),
                         [("rest", 2, 0, 1), ("rest", 4, 0, 2)])
        self.assertEqual(self.short_faults([[0], [], [0], []], house), [("rest", 3, 0, 1)])
        self.assertEqual(self.short_faults([[0], [], [], [0]], house), [])

    def test_rest_at_its_bounds(self):
        house = House(Wants([1, 1, 1]), [1], rest=0)
        self.both([[0], [0], [0]], [], house)
        house = House(Wants([1] + [0] * 59), [1], rest=60)
        self.both([[0]] + [[]] * 59, [], house)
        house = House(Wants([1] + [0] * 58 + [1]), [1], rest=60)
        self.both([[0]] + [[]] * 58 + [[0]], [("rest", 60, 0, 1)], house)

    def test_rest_looks_at_a_row_with_faults_too(self):
        house = House(Wants([1, 1]), [2, 1], rest=1)
        self.both([[0], [0]], [("early", 1, 0), ("rest", 2, 0, 1)], house)

    def test_two_faults_at_one_entry(self):
        house = House(Wants([1, 1, 1]), [3, 1], rest=1)
        self.both([[0], [0], [1]], [("early", 1, 0), ("early", 2, 0), ("rest", 2, 0, 1)], house)

    def test_count(self):
        self.assertEqual(self.faults([[0], [2], [0, 1]]), [("count", 1, 1, 2)])
        self.assertEqual(self.short_faults([[0], [2], [0, 1]]), [])
        self.assertEqual(self.faults([[], [], []]),
                         [("count", 1, 0, 2), ("count", 2, 0, 1), ("count", 3, 0, 2)])
        self.assertEqual(self.short_faults([[], [], []]), [])
        house = House(Wants([1, 1]), [1, 1], rest=0)
        self.both([[1, 0], [0]], [("count", 1, 2, 1)], house)

    def test_count_is_of_different_persons_of_the_house(self):
        self.assertEqual(self.faults([[0, 0, 7], [2], [0, 1]]),
                         [("twice", 1, 0), ("stranger", 1, 7), ("count", 1, 1, 2)])
        self.assertEqual(self.short_faults([[0, 0, 7], [2], [0, 1]]),
                         [("twice", 1, 0), ("stranger", 1, 7)])
        self.both([[0, 1, 1, 9], [2], [0, 1]], [("twice", 1, 1), ("stranger", 1, 9)])

    def test_count_takes_in_the_early_and_the_tired(self):
        self.both([[0, 1, 2], [2], [0, 1]],
                  [("early", 1, 2), ("count", 1, 3, 2), ("rest", 2, 2, 1)])

    def test_order(self):
        self.both([[2, 0, 1], [1, 7, 1], [1, 0, 2]], [
            ("early", 1, 2), ("count", 1, 3, 2),
            ("rest", 2, 1, 1), ("stranger", 2, 7), ("twice", 2, 1),
            ("rest", 3, 1, 2), ("count", 3, 3, 2)])

    def test_the_list_is_new(self):
        plan = Plan([[0]])
        plan_faults(self.house, plan).append(1)
        self.assertEqual(plan_faults(self.house, plan), [("length", 1, 3)])

    def test_against_all_plans(self):
        for house in some_houses(80, 5, nights=3, want=2):
            for short in (False, True):
                fitting = {tuple(map(tuple, rows)) for rows in all_plans(house, short)}
                every = [[]]
                for _ in range(house.nights):
                    every = [rows + [row] for rows in every
                             for row in subsets(range(house.people))]
                for rows in every:
                    fits = plan_faults(house, Plan(rows), short=short) == []
                    self.assertIs(fits, tuple(map(tuple, rows)) in fitting)


class Counts(Case):
    def test_any_plan(self):
        house = House(Wants([2, 1, 2]), [1, 1, 2])
        self.assertEqual(counts_of(house, Plan([[0, 1], [2], [0, 1]])), [2, 2, 1])
        self.assertEqual(counts_of(house, Plan([[0, 0, 9, FAR, -1]] * 5)), [5, 0, 0])
        self.assertEqual(counts_of(house, Plan([])), [0, 0, 0])
        self.assertEqual(counts_of(House(Wants([]), []), Plan([[0]])), [])

    def test_against_a_plain_count(self):
        for house in some_houses(60, 6, nights=3):
            for rows in all_plans(house, short=True):
                self.assertEqual(counts_of(house, Plan(rows)), list(counts_in(rows, house.people)))


class Walks(Case):
    house = House(Wants([2, 1, 2]), [1, 1, 2], rest=1)

    def test_walk(self):
        self.assertEqual(list(walk_plan(self.house, Plan([[1, 0], [2], [1, 0]]))),
                         [(1, [0, 1], (1, 0)), (2, [2], (2,)), (3, [0, 1], (1, 0))])
        self.assertEqual(list(walk_plan(House(Wants([]), [1]), Plan([]))), [])
        self.assertEqual(list(walk_plan(House(Wants([0]), []), Plan([[]]))), [(1, [], ())])

    def test_walk_short(self):
        plan = Plan([[1], [], [0]])
        self.assertEqual(list(walk_plan(self.house, plan, short=True)),
                         [(1, [0, 1], (1,)), (2, [0, 2], ()), (3, [0, 1, 2], (0,))])

    def test_rest_at_its_bounds(self):
        for rest, last in ((0, [0, 1]), (1, [0, 1]), (2, [1]), (60, [1])):
            house = House(Wants([1, 0, 0]), [1, 1], rest=rest)
            self.assertEqual(list(walk_plan(house, Plan([[0], [], []])))[2], (3, last, ()))

    def test_free_people_as_the_document_says(self):
        for house in some_houses(100, 7, nights=5):
            for rows in all_plans(house, short=True)[::7]:
                for night, free, row in walk_plan(house, Plan(rows), short=True):
                    tired = [p for past in range(max(1, night - house.rest), night)
                             for p in rows[past - 1]]
                    self.assertEqual(free, [p for p, coming in enumerate(house.comings)
                                            if coming <= night and p not in tired])
                    self.assertEqual(row, tuple(rows[night - 1]))

    def test_a_plan_with_faults(self):
        plan = Plan([[0], [0], [1, 7]])
        walk = walk_plan(self.house, plan)
        self.refused(BadPlan(("count", 1, 1, 2)), next, walk)
        self.refused(BadPlan(("count", 1, 1, 2)), next, walk_plan(self.house, plan, short=False))
        self.refused(BadPlan(("rest", 2, 0, 1)), next, walk_plan(self.house, plan, short=True))
        self.refused(BadPlan(("length", 1, 0)), next, walk_plan(House(Wants([]), []), Plan([[]])))

    def test_a_walk_that_goes_on(self):
        comings, rows = [1, 1, 2], [[1, 0], [2], [1, 0]]
        walk = walk_plan(House(Wants([2, 1, 2]), comings, rest=1), Plan(rows))
        comings[2] = 4
        next(walk)[1].clear()
        rows[1].append(0)
        rows[2].clear()
        _, free, row = next(walk)
        self.assertEqual((free, row), ([2], (2,)))
        free.extend([0, 1])
        self.assertEqual(list(walk), [(3, [0, 1], (1, 0))])

    def test_short_is_by_keyword(self):
        self.assertRaises(TypeError, walk_plan, self.house, Plan([]), True)

    def test_a_large_house(self):
        for rest in (0, 2, 60):
            house = large_house(rest)
            plan = Plan([[]] * 60)
            self.assertEqual(plan_faults(house, plan, short=True), [])
            self.assertEqual(len(list(walk_plan(house, plan, short=True))), 60)
            self.assertEqual(counts_of(house, Plan([range(30)] * 60)), [60] * 30)
            self.assertGreater(len(plan_faults(house, Plan([range(30)] * 60))), 60)
