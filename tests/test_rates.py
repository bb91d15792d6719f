from fractions import Fraction

from nightsoff.errors import BadNumber
from nightsoff.exact import Exact
from nightsoff.rates import Rate, rate_of
from nightsoff.wants import Wants
from nightsoff.weeks import Week, kept_after
from tests.search import Case
from tests.test_weeks import some_weeks


def step(week, people, night, word):
    """The cost of a step, the nights that it goes back and the night to which it leads."""
    cost, back = (week.run[night], 1) if word == "night" else (people, week.rest + 1)
    return cost, back, ((night - 1 - back) % len(week.run)) + 1


def share_of(week, people, steps):
    cost = sum(step(week, people, *one)[0] for one in steps)
    back = sum(step(week, people, *one)[1] for one in steps)
    return Fraction(len(week.run) * cost, back)


def all_rounds(week, people):
    """All rounds of 1 to p steps."""
    walks = [[(night, word)] for night in range(1, len(week.run) + 1) for word in ("night", "stretch")]
    rounds = []
    for _ in week.run:
        rounds += [steps for steps in walks if step(week, people, *steps[-1])[2] == steps[0][0]]
        walks = [steps + [(step(week, people, *steps[-1])[2], word)]
                 for steps in walks for word in ("night", "stretch")]
    return rounds


class Rates(Case):
    def look_at(self, week, people, found):
        """Check the round and the heights by their own words (point 58)."""
        nights = len(week.run)
        self.assertIsInstance(found, Rate)
        self.assertIsInstance(found.share, Exact)
        share = Fraction(found.share.top, found.share.bottom)
        self.assertIsInstance(found.steps, list)
        self.assertTrue(1 <= len(found.steps) <= nights)
        for place, (night, word) in enumerate(found.steps):
            self.assertIn(word, ("night", "stretch"))
            self.assertEqual(step(week, people, *found.steps[place - 1])[2], night)
        self.assertEqual(share_of(week, people, found.steps), share)
        self.assertIsInstance(found.heights, list)
        self.assertEqual(len(found.heights), nights)
        self.assertTrue(all(isinstance(height, Exact) for height in found.heights))
        heights = [Fraction(height.top, height.bottom) for height in found.heights]
        for night in range(1, nights + 1):
            for word in ("night", "stretch"):
                cost, back, other = step(week, people, night, word)
                self.assertGreaterEqual(cost + heights[other - 1] - heights[night - 1], share * back / nights)

    def test_a_rate(self):
        found = rate_of(Week(Wants([1, 0, 1]), 1), 1)
        self.assertEqual(found.share.text(), "1")
        self.look_at(Week(Wants([1, 0, 1]), 1), 1, found)
        self.assertEqual(rate_of(Week(Wants([1, 1, 1]), 1), 1).share.text(), "3/2")
        self.assertEqual(rate_of(Week(Wants([1]), 4), 3).share.text(), "3/5")

    def test_edges(self):
        for week, people, share in ((Week(Wants([2, 1]), 3), 0, "0"), (Week(Wants([0]), 4), 9, "0"),
                                    (Week(Wants([30] * 14), 4), 10 ** 6, "420"), (Week(Wants([5]), 0), 3, "3"),
                                    (Week(Wants([30] * 14), 4), 1, "14/5"), (Week(Wants([9]), 4), 45, "9")):
            found = rate_of(week, people)
            self.assertEqual(found.share.text(), share)
            self.look_at(week, people, found)

    def test_against_all_rounds(self):
        for week in some_weeks(80, 251):
            if len(week.run) <= 4:
                for people in (0, 1, 2, 5, 9):
                    found = rate_of(week, people)
                    self.look_at(week, people, found)
                    rounds = all_rounds(week, people)
                    self.assertIn(found.steps, rounds)
                    self.assertEqual(Fraction(found.share.top, found.share.bottom),
                                     min(share_of(week, people, steps) for steps in rounds))

    def test_long_weeks(self):
        for week in some_weeks(60, 252, nights=14, want=30):
            for people in (1, 7, 30, 61, 10 ** 6):
                self.look_at(week, people, rate_of(week, people))

    def test_what_is_kept(self):
        for week in some_weeks(40, 253, nights=6):
            for people in (0, 1, 3, 4):
                share = rate_of(week, people).share
                for weeks in (0, 1, 2, 7, 10 ** 6, 10 ** 18):
                    self.assertFalse(Exact(kept_after(week, people, weeks)).below(share * weeks))
                more = share + Exact(1, 10 ** 6)
                self.assertTrue(Exact(kept_after(week, people, 10 ** 9)).below(more * 10 ** 9))

    def test_refused(self):
        week = Week(Wants([1, 0, 1]), 1)
        for people in (-1, 10 ** 6 + 1, 10 ** 30):
            self.refused(BadNumber(0, people), rate_of, week, people)

    def test_answers_are_new(self):
        week = Week(Wants([1, 0, 1]), 1)
        found = rate_of(week, 2)
        steps, heights = list(found.steps), [height.text() for height in found.heights]
        found.steps.append(0)
        found.heights.clear()
        again = rate_of(week, 2)
        self.assertEqual([again.steps, [height.text() for height in again.heights]], [steps, heights])
