import itertools
from math import lcm

from nightsoff.errors import BadNumber
from nightsoff.exact import Exact
from nightsoff.judge import can_be_true
from nightsoff.lasting import Lasting, lasting, numbers_after
from nightsoff.rates import rate_of
from nightsoff.wants import Wants
from nightsoff.weeks import Week, kept_after
from tests.search import Case
from tests.test_weeks import some_weeks


def first_fit(shares):
    return lcm(*[share.bottom for share in shares])


def some_shares(week, people):
    """Lists of shares, in halves or thirds, whose sum is the whole of the week."""
    found = []
    for bottom in (2, 3):
        whole = sum(week.run) * bottom
        for tops in itertools.product(range(min(whole, 7) + 1), repeat=people - 1):
            if sum(tops) <= whole:
                found.append([Exact(top, bottom) for top in [*tops, whole - sum(tops)]])
    return found


class Shares(Case):
    def test_words(self):
        week = Week(Wants([1, 1, 1]), 2)
        found = lasting(week, [Exact(3, 2), Exact(1), Exact(1, 2)])
        self.assertIsInstance(found, Lasting)
        self.assertEqual([found.word, found.persons, found.weeks, found.lasts], ["many", [0], 2, False])
        found = lasting(week, [Exact(1), Exact(1), Exact(1)])
        self.assertEqual([found.word, found.persons, found.weeks, found.lasts], ["lasts", None, None, True])
        found = lasting(week, [Exact(1), Exact(1), Exact(1, 2)])
        self.assertEqual([found.word, found.persons, found.weeks, found.lasts], ["sum", None, None, False])

    def test_edges(self):
        self.assertEqual(lasting(Week(Wants([0, 0]), 4), []).word, "lasts")
        self.assertEqual(lasting(Week(Wants([1]), 0), []).word, "sum")
        self.assertEqual(lasting(Week(Wants([0]), 0), [Exact(0), Exact(0, 7)]).word, "lasts")
        self.assertEqual(lasting(Week(Wants([1]), 4), [Exact(1, 5)] * 5).word, "lasts")
        found = lasting(Week(Wants([1]), 4), [Exact(0), Exact(1), Exact(0)])
        self.assertEqual([found.word, found.persons, found.weeks], ["many", [1], 2])

    def test_equal_shares(self):
        # Two of the three greatest: of equal shares the lower persons come first.
        found = lasting(Week(Wants([1, 0]), 2), [Exact(0), Exact(1, 3), Exact(1, 3), Exact(1, 3)])
        self.assertEqual([found.word, found.persons], ["lasts", None])
        found = lasting(Week(Wants([3, 0]), 3), [Exact(1, 3)] * 9)
        self.assertEqual([found.word, found.persons], ["lasts", None])
        found = lasting(Week(Wants([2, 0, 0, 0]), 4), [Exact(1, 2), Exact(0), Exact(3, 4), Exact(3, 4)])
        self.assertEqual([found.word, found.persons], ["many", [2]])
        found = lasting(Week(Wants([2, 0, 0, 0]), 3), [Exact(1, 2), Exact(0), Exact(3, 4), Exact(3, 4)])
        self.assertEqual([found.word, found.persons], ["lasts", None])
        found = lasting(Week(Wants([3, 1, 1]), 0), [Exact(0), Exact(5, 3), Exact(5, 3), Exact(5, 3)])
        self.assertEqual([found.word, found.persons], ["lasts", None])
        found = lasting(Week(Wants([3, 1, 1]), 0), [Exact(7, 3), Exact(0), Exact(4, 3), Exact(4, 3)])
        self.assertEqual([found.word, found.persons], ["lasts", None])
        found = lasting(Week(Wants([4, 1, 1]), 0), [Exact(7, 3), Exact(1), Exact(4, 3), Exact(4, 3)])
        self.assertEqual([found.word, found.persons], ["lasts", None])
        found = lasting(Week(Wants([4, 1, 0]), 0), [Exact(0), Exact(5, 3), Exact(5, 3), Exact(5, 3)])
        self.assertEqual([found.word, found.persons], ["many", [1, 2]])
        found = lasting(Week(Wants([1, 1]), 2), [Exact(1, 5), Exact(4, 5), Exact(1, 5), Exact(4, 5)])
        self.assertEqual([found.word, found.persons], ["many", [1]])

    def test_the_least_count_and_the_lower_persons(self):
        met = []
        for week in some_weeks(40, 261, nights=3) + [Week(Wants([3, 1, 1]), 0), Week(Wants([0, 3, 1]), 0)]:
            for shares in some_shares(week, 3) if len(week.run) <= 3 else []:
                found = lasting(week, shares)
                if found.word == "many":
                    met.append(len(found.persons))
                    self.look_at_many(week, shares, found)
        self.assertEqual(sorted(set(met)), [1, 2])

    def test_everybody_together(self):
        # Two people keep at most two of the three watches of the first two nights.
        week = Week(Wants([2, 1, 0, 1, 0, 1, 0]), 1)
        found = lasting(week, [Exact(5, 2), Exact(5, 2)])
        self.assertEqual([found.word, found.persons, found.weeks], ["many", [0, 1], 2])

    def look_at_many(self, week, shares, found):
        order = sorted(range(len(shares)), key=lambda person: (-shares[person].top * 6 // shares[person].bottom, person))
        count = len(found.persons)
        self.assertEqual(found.persons, sorted(order[:count]))
        for fewer in range(1, count + 1):
            together = Exact.sum_of([shares[person] for person in order[:fewer]])
            self.assertIs(rate_of(week, fewer).share.below(together), fewer == count)
        weeks = first_fit(shares)
        while not Exact(kept_after(week, count, weeks)).below(together * weeks):
            weeks *= 2
        self.assertEqual(found.weeks, weeks)
        if weeks * len(week.run) <= 60:
            self.assertFalse(can_be_true(week.written_out(weeks, len(shares)), numbers_after(shares, weeks)))

    def test_against_written_out_houses(self):
        words = {"lasts": 0, "many": 0, "sum": 0}
        for week in some_weeks(40, 262, nights=3, want=2):
            if len(week.run) > 3:
                continue
            for shares in some_shares(week, 2) + [[Exact(1, 2), Exact(1, 3)], [Exact(1)]]:
                found = lasting(week, shares)
                words[found.word] += 1
                held = [can_be_true(week.written_out(weeks, len(shares)), numbers_after(shares, weeks))
                        for weeks in range(1, 60 // len(week.run) + 1) if weeks % first_fit(shares) == 0]
                if found.word == "sum":
                    self.assertNotIn(True, held)
                else:
                    # Within these weeks each of the shares that do not last is found out.
                    self.assertIs(found.lasts, all(held))
        self.assertGreater(min(words.values()), 5)

    def test_long_weeks_with_great_bottoms(self):
        week = Week(Wants([3, 1, 4, 1, 5, 9, 2, 6, 5, 3, 5, 8, 9, 7]), 4)
        rates = [rate_of(week, count).share for count in range(4)]
        # The three people together reach their rate, the first one is above it.
        shares = [rates[1] + Exact(1, 60), Exact(59, 53), Exact(0)]
        shares = [*shares, Exact(68) - Exact.sum_of(shares)]
        found = lasting(week, shares)
        self.assertEqual(found.word, "many")
        self.assertEqual(found.weeks % first_fit(shares), 0)
        self.assertIsNotNone(numbers_after(shares, found.weeks))
        together = Exact.sum_of([shares[person] for person in found.persons])
        self.assertTrue(Exact(kept_after(week, len(found.persons), found.weeks)).below(together * found.weeks))

    def test_many_weeks(self):
        # After a week the person keeps a night more than the rate, which is soon used up.
        week = Week(Wants([1] * 13), 1)
        share = rate_of(week, 1).share
        self.assertEqual(share.text(), "13/2")
        for bottom in (2, 30, 60):
            shares = [share + Exact(1, bottom), Exact(13) - share - Exact(1, bottom)]
            found = lasting(week, shares)
            self.assertEqual([found.word, found.persons], ["many", [0]])
            half = found.weeks // 2
            if half % first_fit(shares) == 0:
                self.assertFalse(Exact(kept_after(week, 1, half)).below(shares[0] * half))
            self.assertTrue(Exact(kept_after(week, 1, found.weeks)).below(shares[0] * found.weeks))

    def test_refused(self):
        week = Week(Wants([1]), 0)
        self.refused(BadNumber(1, -1), lasting, week, [Exact(1), Exact(-2, 4), Exact(-3)])
        self.refused(BadNumber(0, -3), lasting, week, [Exact(-3), Exact(4)])

    def test_copies(self):
        week = Week(Wants([1, 1, 1]), 2)
        shares = [Exact(3, 2), Exact(1), Exact(1, 2)]
        lasting(week, shares).persons.append(5)
        numbers_after(shares, 2).append(5)
        self.assertEqual([share.text() for share in shares], ["3/2", "1", "1/2"])
        self.assertEqual([lasting(week, shares).persons, numbers_after(shares, 2)], [[0], [3, 2, 1]])


class NumbersAfter(Case):
    def test_numbers(self):
        shares = [Exact(3, 2), Exact(1), Exact(1, 2)]
        self.assertEqual([numbers_after(shares, 2), numbers_after(shares, 3)], [[3, 2, 1], None])
        self.assertEqual([numbers_after(shares, 0), numbers_after([], 5)], [[0, 0, 0], []])
        self.assertEqual(numbers_after([Exact(30, 59), Exact(7, 60)], 59 * 60), [1800, 413])
        self.assertEqual(numbers_after([Exact(1, 2)], 10 ** 18), [5 * 10 ** 17])
        self.assertIsNone(numbers_after([Exact(1), Exact(1, 4)], 2))
