from nightsoff.compare import can_be_watched
from nightsoff.desks import Desk
from nightsoff.errors import (
    BadComing, BadMode, BadNumber, DeskOver, NamedTwice, NoneLeft, NoNight, NoPerson, NotPossible, NotRight,
    NothingToRedo, NothingToUndo, PastNight, TooEarly, TooFew, TooSoon, WrongCount, WrongLength)
from nightsoff.history import History
from nightsoff.houses import House
from nightsoff.judge import judge
from nightsoff.plans import Plan, plan_faults
from nightsoff.settle import settle
from nightsoff.tellings import LIMIT, Telling
from nightsoff.tonight import thresholds, tonight_fault
from nightsoff.wants import Wants
from tests.search import Case, Numbers, all_counts, all_plans, counts_in, subsets, watched_houses
from tests.test_history import desk_state, some_desk_deeds


def small_desk(told=(1, 2, 1), rest=2):
    return Desk(House.all_there(Wants([1, 1, 1, 1]), 3, rest=rest), list(told))


def in_any_mode(house, told, rows):
    """A desk in the mode "any" on which the people of these rows have watched."""
    desk = Desk(house, told)
    desk.mode = "any"
    for row in rows:
        desk.watch(list(row))
    return desk


def plain_ahead(desk):
    """The house ahead and the left numbers, straight from point 64."""
    house = desk.house_now()
    rows = desk.rows_so_far().rows
    over = len(rows)
    comings = []
    for person, coming in enumerate(house.comings):
        nights = [night for night, row in enumerate(rows, start=1) if person in row]
        first = max(1, coming - over, nights[-1] + house.rest + 1 - over if nights else 1)
        comings.append(min(first, house.nights - over + 1))
    left = [number - sum(person in row for row in rows) for person, number in enumerate(desk.told_now())]
    return house.wants.numbers[over:], tuple(comings), house.rest, left


class Leading(Case):
    def test_one_night(self):
        desk = small_desk()
        self.assertIsInstance(desk, History)
        self.assertEqual([desk.now, desk.kept, desk.left, desk.mode], [1, (0, 0, 0), (1, 2, 1), "right"])
        self.assertEqual([desk.choose(), desk.tonight(), desk.free_tonight()], [[1], [1, 1], [0, 1, 2]])
        self.assertIsNone(desk.watch([1]))
        self.assertEqual([desk.now, desk.kept, desk.left, desk.free_tonight()], [2, (0, 1, 0), (1, 1, 1), [0, 2]])
        self.assertEqual(desk.outlook().rows, ((1,), (0,), (2,), (1,)))
        self.assertEqual(desk.rows_so_far().rows, ((1,),))
        self.assertIsInstance(desk.outlook(), Plan)
        self.assertIsInstance(desk.rows_so_far(), Plan)
        house, left = desk.ahead()
        self.assertEqual([house.wants.numbers, house.comings, house.rest, left],
                         [(1, 1, 1), (1, 3, 1), 2, [1, 1, 1]])

    def test_before_the_first_night(self):
        house = House(Wants([2, 1, 2]), [1, 1, 2], rest=1)
        desk = Desk(house, Telling([2, 2, 1]))
        self.assertEqual([desk.now, desk.kept, desk.left, desk.free_tonight()], [1, (0, 0, 0), (2, 2, 1), [0, 1]])
        self.assertEqual([desk.house_now().comings, desk.told_now()], [(1, 1, 2), [2, 2, 1]])
        self.assertEqual(desk.rows_so_far().rows, ())
        self.assertEqual(desk.ahead()[0].comings, (1, 1, 2))
        self.assertEqual(desk.outlook().rows, judge(house, [2, 2, 1]).plan.rows)
        self.assertIs(desk.still_kept(), True)

    def test_after_the_last_night(self):
        desk = small_desk()
        for people in ([1], [2], [0], [1]):
            desk.watch(people)
        self.assertEqual([desk.now, desk.kept, desk.left, desk.free_tonight()], [5, (1, 2, 1), (0, 0, 0), []])
        self.assertEqual(desk.outlook().rows, ((1,), (2,), (0,), (1,)))
        house, left = desk.ahead()
        self.assertEqual([house.wants.numbers, house.comings, left], [(), (1, 1, 1), [0, 0, 0]])
        self.assertIs(desk.still_kept(), True)
        for ask in (desk.choose, desk.tonight, lambda: desk.watch([9]), lambda: desk.do(("watch", ()))):
            self.refused(DeskOver(4), ask)

    def test_nothing_and_nobody(self):
        desk = Desk(House(Wants([]), [1]), [0])
        self.assertEqual([desk.now, desk.free_tonight(), desk.outlook().rows, desk.still_kept()], [1, [], (), True])
        self.refused(DeskOver(0), desk.watch, [0])
        desk = Desk(House(Wants([0, 0]), []), [])
        self.assertEqual([desk.tonight(), desk.choose(), desk.kept], [[0], [], ()])
        desk.watch([])
        desk.watch([])
        self.assertEqual([desk.now, desk.rows_so_far().rows, desk.deeds()], [3, ((), ()), [("watch", ())] * 2])

    def test_a_telling_that_is_not_kept(self):
        desk = small_desk([4, 0, 0])
        self.assertIs(desk.still_kept(), False)
        self.assertEqual([desk.choose(), desk.free_tonight()], [[0], [0, 1, 2]])
        self.refused(NotRight(-1), desk.watch, [0])
        desk.switch("any")
        desk.watch([0])
        self.assertEqual([desk.left, desk.choose()], [(3, 0, 0), []])
        self.assertEqual(desk.outlook().rows, ((0,), (), (), (0,)))
        with self.assertRaises(NotPossible) as caught:
            desk.tonight()
        house, left = desk.ahead()
        self.assertEqual([caught.exception.reason, caught.exception.cover.ends],
                         ["stretches", judge(house, left).cover.ends])

    def test_rows_are_ascending(self):
        desk = Desk(House.all_there(Wants([2, 1]), 3, rest=0), [1, 1, 1])
        desk.do(("watch", (2, 0)))
        self.assertEqual([desk.rows_so_far().rows, desk.deeds()], [((0, 2),), [("watch", (0, 2))]])
        self.assertEqual([desk.undo(), desk.redo()], [("watch", (0, 2))] * 2)

    def test_against_point_64(self):
        for seed in range(401, 431):
            desk = small_desk(rest=seed % 4)
            desk.mode = "any"
            for deed in some_desk_deeds(25, seed):
                try:
                    desk.do(deed)
                except ValueError:
                    continue
                house, left = desk.ahead()
                self.assertEqual((house.wants.numbers, house.comings, house.rest, left), plain_ahead(desk))
                self.assertEqual(desk.left, tuple(left))
                self.assertEqual(desk.kept, counts_in(desk.rows_so_far().rows, 3))
                self.assertEqual(desk.now, len(desk.rows_so_far()) + 1)
                self.assertEqual(desk.outlook().rows, desk.rows_so_far().rows + settle(house, left).plan.rows)
                ready = [person for person in range(3) if house.nights > 0 and house.comings[person] == 1]
                self.assertEqual(desk.free_tonight(), ready)
                if house.nights > 0:
                    self.assertEqual(desk.choose(), list(settle(house, left).plan.rows[0]))

    def test_is_the_telling_kept(self):
        words = []
        for seed in range(431, 461):
            desk = small_desk(rest=seed % 3)
            desk.mode = "any"
            for deed in some_desk_deeds(20, seed):
                try:
                    desk.do(deed)
                except ValueError:
                    continue
                rows = [list(row) for row in desk.rows_so_far().rows]
                plans = [plan for plan in all_plans(desk.house_now()) if plan[:len(rows)] == rows]
                kept = any(counts_in(plan, 3) == tuple(desk.told_now()) for plan in plans)
                self.assertIs(desk.still_kept(), kept)
                words.append(kept)
        self.assertGreater(min(words.count(True), words.count(False)), 20)


class RightSets(Case):
    def test_only_right_sets(self):
        nights = 0
        for house in watched_houses(25, 461, nights=5):
            for told in all_counts(house)[:6]:
                desk = Desk(house, list(told))
                while desk.now <= house.nights:
                    self.assertIs(desk.still_kept(), True)
                    later, left = desk.ahead()
                    self.assertEqual(desk.tonight(), thresholds(later, left))
                    right = []
                    for people in subsets(range(house.people)):
                        fault = tonight_fault(later, left, people)
                        if fault is None:
                            right.append(people)
                        elif fault[0] == "level":
                            self.refused(NotRight(fault[1]), desk.watch, people)
                    self.assertTrue(right)
                    self.assertIn(desk.choose(), right)
                    desk.watch(right[(nights + desk.now) % len(right)])
                    nights += 1
                self.assertEqual(desk.left, (0,) * house.people)
                self.assertEqual(plan_faults(house, desk.rows_so_far()), [])
                self.assertEqual(counts_in(desk.rows_so_far().rows, house.people), told)
        self.assertGreater(nights, 100)

    def test_the_house_ahead_can_be_watched(self):
        # Whoever watches: each night that is over was watched by as many as it wanted.
        numbers = Numbers(471)
        nights = 0
        for house in watched_houses(60, 472, nights=5):
            desk = Desk(house, [house.nights] * house.people)
            desk.mode = "any"
            while desk.now <= house.nights:
                free = desk.free_tonight()
                start = numbers.below(len(free) + 1)
                desk.watch((free[start:] + free[:start])[:house.wants[desk.now]])
                self.assertTrue(can_be_watched(desk.ahead()[0]))
                nights += 1
        self.assertGreater(nights, 150)


class Modes(Case):
    def test_switching(self):
        desk = small_desk()
        self.assertIsNone(desk.switch("any"))
        self.assertEqual(desk.mode, "any")
        desk.mode = "right"
        self.assertEqual(desk.mode, "right")
        for word in ("", "Right", "any ", "all"):
            self.refused(BadMode(word), desk.switch, word)
            self.refused(BadMode(word), setattr, desk, "mode", word)
        self.assertEqual([desk.mode, desk.done, desk.undone], ["right", 0, 0])

    def test_any_set(self):
        desk = small_desk()
        self.refused(NotRight(1), desk.watch, [0])
        desk.switch("any")
        desk.watch([0])
        self.assertIs(desk.still_kept(), False)
        desk.switch("right")
        self.refused(NotRight(-1), desk.watch, [1])

    def test_a_change_between_undo_and_redo(self):
        desk = small_desk()
        desk.mode = "any"
        desk.watch([0])
        desk.undo()
        self.assertEqual(desk.mode, "any")
        desk.mode = "right"
        self.assertEqual([desk.undone, desk.redo(), desk.mode], [1, ("watch", (0,)), "right"])
        self.assertEqual([desk.left, desk.still_kept()], [(0, 2, 1), False])
        desk.undo()
        self.assertEqual([desk.mode, desk.left], ["right", (1, 2, 1)])

    def test_no_deed(self):
        desk = small_desk()
        desk.watch([1])
        desk.undo()
        desk.mode = "any"
        desk.switch("right")
        self.assertEqual([desk.done, desk.undone, desk.deeds()], [0, 1, []])


class Watching(Case):
    house = House(Wants([2, 1, 2, 1]), [1, 1, 1, 3], rest=1)

    def desk(self):
        return Desk(self.house, [2, 2, 0, 2])

    def test_refused_entry_by_entry(self):
        for mode in ("right", "any"):
            desk = self.desk()
            desk.mode = mode
            for people, error in (([0, 4, 0], NoPerson(4)), ([-1], NoPerson(-1)), ([0, 0, 9], NamedTwice(0)),
                                  ([3, 3], TooEarly(1, 3)), ([3, 2], TooEarly(1, 3)), ([2, 3], NoneLeft(2)),
                                  ([0, 2], NoneLeft(2)), ([2, 2], NoneLeft(2)), ([], WrongCount(0, 2)),
                                  ([0], WrongCount(1, 2))):
                self.refused(error, desk.watch, people)
                self.refused(error, desk.do, ("watch", tuple(people)))
            self.assertEqual([desk.now, desk.done], [1, 0])

    def test_too_soon(self):
        desk = self.desk()
        desk.mode = "any"
        desk.watch([1, 0])
        self.refused(TooSoon(2, 1, 1), desk.watch, [1, 9])
        self.refused(TooEarly(2, 3), desk.watch, [3, 1])
        desk.do(("correct", 2, 1))
        desk.watch([2])
        self.refused(TooSoon(3, 2, 2), desk.watch, [0, 1, 2])
        self.refused(WrongCount(3, 2), desk.watch, [0, 1, 3])
        desk.watch([0, 3])
        self.refused(NoneLeft(2), desk.watch, [2, 0])
        self.refused(TooSoon(4, 0, 3), desk.watch, [0])

    def test_too_soon_before_none_left(self):
        desk = small_desk([1, 2, 1])
        desk.watch([1])
        desk.watch([0])
        self.refused(TooSoon(3, 0, 2), desk.watch, [0])
        self.refused(TooSoon(3, 1, 1), desk.watch, [1])

    def test_rest_of_zero_and_rest_above_n(self):
        desk = small_desk([4, 0, 0], rest=0)
        for _ in range(4):
            desk.watch([0])
        self.assertEqual(desk.rows_so_far().rows, ((0,),) * 4)
        desk = small_desk([2, 1, 1], rest=60)
        desk.mode = "any"
        desk.watch([0])
        self.refused(TooSoon(2, 0, 1), desk.watch, [0])
        self.assertEqual(desk.ahead()[0].comings, (4, 1, 1))

    def test_made_of_told_lists(self):
        self.refused(WrongLength(2, 4), Desk, self.house, [-1, 0])
        self.refused(BadNumber(1, LIMIT + 1), Desk, self.house, [0, LIMIT + 1, -1, 0])
        self.refused(WrongLength(5, 4), Desk, self.house, Telling([0] * 5))
        self.assertEqual(Desk(self.house, [LIMIT] * 4).left, (LIMIT,) * 4)


class Corrections(Case):
    def desk(self):
        """Two nights are over; person 1 watched on night 1 and person 0 on night 2."""
        desk = small_desk()
        desk.watch([1])
        desk.watch([0])
        return desk

    def test_numbers(self):
        desk = self.desk()
        desk.do(("correct", 1, 1))
        self.assertEqual([desk.told_now(), desk.left, desk.still_kept()], [[1, 1, 1], (0, 0, 1), False])
        desk.do(("correct", 2, LIMIT))
        self.assertEqual(desk.left, (0, 0, LIMIT))
        self.refused(NoPerson(3), desk.do, ("correct", 3, -1))
        self.refused(NoPerson(-1), desk.do, ("correct", -1, 0))
        self.refused(BadNumber(1, -1), desk.do, ("correct", 1, -1))
        self.refused(BadNumber(2, LIMIT + 1), desk.do, ("correct", 2, LIMIT + 1))
        self.refused(TooFew(1, 1), desk.do, ("correct", 1, 0))
        desk.do(("correct", 2, 0))
        self.assertEqual(desk.told_now(), [1, 1, 0])

    def test_wants(self):
        desk = self.desk()
        desk.do(("want", 3, 2))
        self.assertEqual([desk.house_now().wants.numbers, desk.ahead()[0].wants.numbers], [(1, 1, 2, 1), (2, 1)])
        for night in (0, 5, -1):
            self.refused(NoNight(night), desk.do, ("want", night, 99))
        self.refused(PastNight(1), desk.do, ("want", 1, 1))
        self.refused(PastNight(2), desk.do, ("want", 2, 99))
        self.refused(BadNumber(3, -1), desk.do, ("want", 3, -1))
        self.refused(BadNumber(4, 31), desk.do, ("want", 4, 31))
        desk.do(("want", 4, 30))
        self.assertEqual(desk.house_now().wants.numbers, (1, 1, 2, 30))

    def test_comings(self):
        desk = self.desk()
        desk.do(("coming", 2, 4))
        self.assertEqual([desk.house_now().comings, desk.ahead()[0].comings], [(1, 1, 4), (3, 2, 2)])
        self.assertEqual(desk.free_tonight(), [])
        self.refused(NoPerson(3), desk.do, ("coming", 3, 0))
        self.refused(BadComing(0, 0), desk.do, ("coming", 0, 0))
        self.refused(BadComing(1, 6), desk.do, ("coming", 1, 6))
        self.refused(TooEarly(2, 0), desk.do, ("coming", 0, 3))
        self.refused(TooEarly(1, 1), desk.do, ("coming", 1, 5))
        desk.do(("coming", 0, 2))
        desk.do(("coming", 2, 5))
        self.assertEqual([desk.house_now().comings, desk.ahead()[0].comings], [(2, 1, 5), (3, 2, 3)])

    def test_the_first_watch_before_a_coming(self):
        desk = small_desk([2, 1, 1], rest=0)
        desk.mode = "any"
        desk.watch([1])
        desk.watch([0])
        desk.watch([0])
        self.refused(TooEarly(2, 0), desk.do, ("coming", 0, 5))
        self.refused(TooEarly(2, 0), desk.do, ("coming", 0, 3))
        desk.do(("coming", 0, 2))
        self.assertEqual(desk.house_now().comings, (2, 1, 1))
        desk.do(("coming", 0, 1))
        self.assertEqual(desk.house_now().comings, (1, 1, 1))

    def test_as_a_desk_that_started_with_them(self):
        compared = 0
        for seed in range(481, 511):
            desk = small_desk(rest=seed % 4)
            desk.mode = ["any", "right"][seed % 2]
            for deed in some_desk_deeds(25, seed):
                try:
                    desk.do(deed)
                except ValueError:
                    continue
                other = in_any_mode(desk.house_now(), desk.told_now(), desk.rows_so_far().rows)
                self.assertEqual(desk_state(desk), desk_state(other))
                if desk.now <= 4:
                    self.assertEqual(desk.choose(), other.choose())
                    if desk.still_kept():
                        self.assertEqual(desk.tonight(), other.tonight())
                compared += 1
        self.assertGreater(compared, 150)

    def test_undone(self):
        desk = self.desk()
        before = desk_state(desk)
        for deed in (("correct", 1, 4), ("want", 4, 0), ("coming", 2, 3)):
            desk.do(deed)
            self.assertNotEqual(desk_state(desk), before)
            self.assertEqual(desk.undo(), deed)
            self.assertEqual(desk_state(desk), before)

    def test_nothing_to_undo(self):
        desk = small_desk()
        self.refused(NothingToUndo(), desk.undo)
        self.refused(NothingToRedo(), desk.redo)


class Copies(Case):
    def test_what_is_given(self):
        told, people = [1, 2, 1], [1]
        desk = Desk(House.all_there(Wants([1, 1, 1, 1]), 3, rest=2), told)
        desk.watch(people)
        self.assertEqual([told, people], [[1, 2, 1], [1]])
        told[0], people[0] = 9, 0
        self.assertEqual([desk.told_now(), desk.rows_so_far().rows], [[1, 2, 1], ((1,),)])

    def test_what_is_returned(self):
        desk = small_desk()
        desk.watch([1])
        before = desk_state(desk)
        for found in (desk.told_now(), desk.ahead()[1], desk.free_tonight(), desk.choose(), desk.tonight(),
                      desk.deeds()):
            found.append(7)
        self.assertEqual([desk_state(desk), desk.choose(), desk.tonight(), desk.deeds()],
                         [before, [0], [1], [("watch", (1,))]])
