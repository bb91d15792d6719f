from nightsoff.errors import BadNumber, BadRest, EmptyWeek, TooLong
from nightsoff.firsts import most_of
from nightsoff.houses import House
from nightsoff.wants import Wants
from nightsoff.weeks import Week, kept_after
from tests.search import Case, Numbers


def some_weeks(count, seed, nights=4, want=3):
    numbers = Numbers(seed)
    found = [Week(Wants([0]), 0), Week(Wants([1]), 4), Week(Wants([2] * 14), 1)]
    while len(found) < count:
        run = Wants(numbers.several(numbers.between(1, nights), 0, want))
        found.append(Week(run, numbers.between(0, 4)))
    return found


class Weeks(Case):
    def test_attributes(self):
        run = Wants([1, 0, 1])
        week = Week(run, 2)
        self.assertIsInstance(week.run, Wants)
        self.assertEqual([week.run.numbers, week.rest], [(1, 0, 1), 2])
        self.assertEqual([Week(Wants([1]), 0).rest, Week(Wants([30] * 14), 4).rest], [0, 4])

    def test_refused(self):
        self.refused(EmptyWeek(), Week, Wants([]), 5)
        self.refused(TooLong(15), Week, Wants([1] * 15), 5)
        self.refused(TooLong(60), Week, Wants([1] * 60), -1)
        for rest in (-1, 5, 60, 10 ** 30):
            self.refused(BadRest(rest), Week, Wants([1]), rest)

    def test_written_out(self):
        house = Week(Wants([1, 0, 2]), 3).written_out(2, 4)
        self.assertIsInstance(house, House)
        self.assertEqual([house.wants.numbers, house.comings, house.rest], [(1, 0, 2, 1, 0, 2), (1, 1, 1, 1), 3])
        house = Week(Wants([1]), 0).written_out(0, 0)
        self.assertEqual([house.wants.numbers, house.comings, house.rest], [(), (), 0])
        self.assertEqual(Week(Wants([1] * 12), 0).written_out(5, 30).nights, 60)

    def test_not_written_out(self):
        week = Week(Wants([1] * 7), 1)
        self.refused(BadNumber(0, -1), week.written_out, -1, -1)
        self.refused(TooLong(63), week.written_out, 9, -1)
        self.refused(TooLong(7 * 10 ** 18), week.written_out, 10 ** 18, 31)
        self.refused(BadNumber(0, -1), week.written_out, 8, -1)
        self.refused(TooLong(31), week.written_out, 0, 31)


class Kept(Case):
    def test_kept(self):
        week = Week(Wants([1, 0, 1]), 1)
        self.assertEqual([kept_after(week, 1, 1), kept_after(week, 1, 2), kept_after(week, 1, 10 ** 18)],
                         [2, 3, 10 ** 18 + 1])

    def test_edges(self):
        week = Week(Wants([3, 0, 30]), 2)
        self.assertEqual([kept_after(week, 5, 0), kept_after(week, 0, 10 ** 18), kept_after(week, 0, 0)], [0, 0, 0])
        self.assertEqual(kept_after(week, 10 ** 6, 10 ** 18), 33 * 10 ** 18)
        self.assertEqual(kept_after(week, 32, 10 ** 18), 32 * 10 ** 18)
        self.assertEqual(kept_after(Week(Wants([30] * 14), 0), 10 ** 6, 10 ** 18), 420 * 10 ** 18)
        self.assertEqual(kept_after(Week(Wants([30] * 14), 4), 1, 10 ** 18), (14 * 10 ** 18 + 4) // 5)
        self.assertEqual(kept_after(Week(Wants([1]), 4), 2, 10 ** 18 - 1), (10 ** 18 - 1 + 4) // 5 + (10 ** 18 + 2) // 5)

    def test_refused(self):
        week = Week(Wants([1, 0, 1]), 1)
        self.refused(BadNumber(0, -1), kept_after, week, -1, -1)
        self.refused(BadNumber(0, 10 ** 6 + 1), kept_after, week, 10 ** 6 + 1, 10 ** 18 + 1)
        self.refused(BadNumber(1, -1), kept_after, week, 0, -1)
        self.refused(BadNumber(1, 10 ** 18 + 1), kept_after, week, 10 ** 6, 10 ** 18 + 1)

    def test_against_written_out_houses(self):
        for week in some_weeks(60, 241, nights=5):
            for people in (0, 1, 2, 3, 5, 8, 30):
                for weeks in range(60 // len(week.run) + 1):
                    house = week.written_out(weeks, people)
                    self.assertEqual(kept_after(week, people, weeks), most_of(house, list(range(people))))

    def test_never_more_than_the_parts(self):
        numbers = Numbers(242)
        for week in some_weeks(40, 243, nights=7, want=9):
            for people in (1, 4, 9):
                for most in (3, 10, 10 ** 9, 5 * 10 ** 17):
                    one, two = numbers.several(2, 0, most)
                    self.assertLessEqual(kept_after(week, people, one + two),
                                         kept_after(week, people, one) + kept_after(week, people, two))
