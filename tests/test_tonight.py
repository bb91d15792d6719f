from nightsoff.errors import (
    BadNumber, NamedTwice, NoneLeft, NoNight, NoPerson, NotPossible, TooEarly, WrongLength)
from nightsoff.firsts import first_choice
from nightsoff.houses import House
from nightsoff.judge import judge
from nightsoff.tellings import LIMIT, Telling
from nightsoff.tonight import after_tonight, may_watch, must_watch, sparing_set, thresholds, tonight_fault
from nightsoff.wants import Wants
from tests.search import Case, all_counts, all_covers, late_houses, plain_excess, some_houses, subsets

ASKING = (thresholds, must_watch, may_watch, sparing_set)


def as_busy(house):
    """The house with wants that keep its people busy."""
    return house.changed(wants=Wants(first_choice(house, list(range(house.people)))))


def told_houses(count, seed, **sizes):
    """Houses with at least one night, each with all numbers that can be true in it."""
    busy = [house.changed(comings=[1] * house.people) for house in some_houses(count, seed + 1, rest=2, **sizes)]
    for house in some_houses(count, seed, **sizes) + [as_busy(house) for house in busy] + late_houses():
        if house.nights > 0:
            for told in all_counts(house):
                yield house, list(told)


def plain_after(house, told, people):
    """Point 60 straight from its words."""
    nights = len(house.wants.numbers)
    comings = [min(house.rest + 1, nights) if person in people else max(1, coming - 1)
               for person, coming in enumerate(house.comings)]
    return (House(Wants(house.wants.numbers[1:]), comings, rest=house.rest),
            [number - (person in people) for person, number in enumerate(told)])


def right_sets(house, told):
    """All sets that are right tonight (point 60), ascending ones."""
    ready = [person for person, number in enumerate(told) if house.comings[person] == 1 and number > 0]
    found = []
    for people in subsets(ready):
        if len(people) == house.wants[1]:
            later, left = plain_after(house, told, people)
            if tuple(left) in all_counts(later):
                found.append(people)
    return found


def plain_thresholds(house, told):
    """Point 61 straight from its words."""
    levels = []
    for w in range((house.nights - 1) // (house.rest + 1) + 1):
        slack = -max(plain_excess(house, ends, told) for ends in all_covers(house)
                     if len(ends) == w and all(end > house.rest + 1 for end in ends))
        levels.append(max(0, house.wants[1] - slack))
    return levels


class Tonight(Case):
    house = House.all_there(Wants([1, 1, 1, 1]), 3, rest=2)

    def test_answers(self):
        told = [1, 2, 1]
        self.assertEqual(thresholds(self.house, told), [1, 1])
        self.assertEqual(tonight_fault(self.house, told, [0]), ("level", 1, 0, 1))
        self.assertIsNone(tonight_fault(self.house, Telling(told), [1]))
        self.assertEqual([must_watch(self.house, told), may_watch(self.house, told), sparing_set(self.house, told)],
                         [[1], [1], [1]])
        house = House(Wants([2, 1, 2]), [1, 1, 1], rest=0)
        told = Telling([1, 2, 2])
        self.assertEqual([must_watch(house, told), may_watch(house, told), sparing_set(house, told)],
                         [[], [0, 1, 2], [0, 1]])

    def test_edges(self):
        one = House.all_there(Wants([1]), 2, rest=60)
        self.assertEqual([thresholds(one, [0, 1]), must_watch(one, [0, 1]), may_watch(one, [0, 1])], [[1], [1], [1]])
        nobody = House(Wants([0, 1]), [1, 2], rest=60)
        self.assertEqual([ask(nobody, [1, 0]) for ask in ASKING], [[0], [], [], []])
        self.assertIsNone(tonight_fault(nobody, [1, 0], []))
        self.assertEqual([ask(House(Wants([0, 0]), [], rest=0), []) for ask in ASKING], [[0, 0], [], [], []])
        never = House(Wants([1, 1]), [3, 1, 1], rest=5)
        self.assertEqual([ask(never, [0, 1, 1]) for ask in ASKING], [[1], [], [1, 2], [1]])

    def test_thresholds_against_all_covers(self):
        positive = 0
        for house, told in told_houses(80, 301, nights=5):
            levels = thresholds(house, told)
            self.assertEqual(levels, plain_thresholds(house, told))
            positive += any(levels[1:])
        self.assertGreater(positive, 50)

    def test_right_sets_by_thresholds(self):
        wrong = 0
        for house, told in told_houses(60, 303, nights=5, people=4):
            levels = thresholds(house, told)
            right = right_sets(house, told)
            self.assertTrue(right)
            for people in subsets(range(house.people)):
                ready = all(house.comings[person] == 1 and told[person] > 0 for person in people)
                met = all(len([person for person in people if told[person] > w]) >= needed
                          for w, needed in enumerate(levels))
                wanted = ready and len(people) == house.wants[1] and met
                self.assertIs(people in right, wanted)
                self.assertIs(tonight_fault(house, told, people) is None, wanted)
                self.assertIs(tonight_fault(house, told, people[::-1]) is None, wanted)
                wrong += ready and len(people) == house.wants[1] and not met
        self.assertGreater(wrong, 50)

    def test_must_may_and_sparing(self):
        musts = 0
        for house, told in told_houses(60, 305, nights=5, people=4):
            right = right_sets(house, told)
            people = range(house.people)
            must = [person for person in people if all(person in chosen for chosen in right)]
            self.assertEqual(must_watch(house, told), must)
            self.assertEqual(may_watch(house, told),
                             [person for person in people if any(person in chosen for chosen in right)])
            sparing = sparing_set(house, told)
            self.assertIn(sparing, right)
            self.assertEqual(sum(told[person] for person in sparing),
                             min(sum(told[person] for person in chosen) for chosen in right))
            self.assertEqual(sparing, self.plain_sparing(house, told))
            musts += bool(must)
        self.assertGreater(musts, 50)

    def plain_sparing(self, house, told):
        """Point 62 straight from its words."""
        levels = plain_thresholds(house, told)
        chosen = []
        for w in reversed(range(len(levels))):
            while len(chosen) < max(levels[w:]):
                chosen.append(min((told[person], person) for person in range(house.people)
                                  if house.comings[person] == 1 and told[person] > w and person not in chosen)[1])
        return sorted(chosen)


class Faults(Case):
    house = House(Wants([2, 1, 1]), [1, 1, 1, 2, 1], rest=1)
    told = [2, 1, 0, 1, 0]

    def test_first_fault(self):
        faults = {
            (5, 5): ("stranger", 5), (-1, 3): ("stranger", -1), (0, 10 ** 30): ("stranger", 10 ** 30),
            (0, 0, 9): ("twice", 0), (0, 0): ("twice", 0), (3, 3): ("early", 3), (0, 3, 2): ("early", 3),
            (2, 3): ("none", 2), (2, 2): ("none", 2), (): ("count", 0, 2), (0,): ("count", 1, 2),
        }
        self.assertEqual(judge(self.house, self.told).word, "true")
        for people, fault in faults.items():
            self.assertEqual(tonight_fault(self.house, self.told, list(people)), fault)
        self.assertIsNone(tonight_fault(self.house, self.told, [1, 0]))

    def test_early_before_none_and_count(self):
        house = House(Wants([1, 0]), [2, 1, 1], rest=0)
        self.assertEqual(tonight_fault(house, [0, 1, 0], [0]), ("early", 0))
        self.assertEqual(tonight_fault(house, [0, 1, 0], [2, 0, 7]), ("none", 2))
        self.assertEqual(tonight_fault(house, [0, 1, 0], [1, 0]), ("early", 0))

    def test_least_level(self):
        levels = []
        for house, told in told_houses(60, 307, nights=5):
            wanted = plain_thresholds(house, told)
            ready = [person for person, number in enumerate(told) if house.comings[person] == 1 and number > 0]
            for people in subsets(ready):
                if len(people) == house.wants[1]:
                    found = [len([person for person in people if told[person] > w]) for w in range(len(wanted))]
                    lacks = [("level", w, found[w], wanted[w]) for w in range(len(wanted)) if found[w] < wanted[w]]
                    self.assertEqual(tonight_fault(house, told, people), lacks[0] if lacks else None)
                    levels += [lack[1] for lack in lacks[:1]]
        self.assertGreater(levels.count(1), 10)
        self.assertGreater(levels.count(2), 0)


class AfterTonight(Case):
    def test_house_and_numbers(self):
        house = House(Wants([1, 2, 0, 1]), [1, 1, 3, 5], rest=2)
        later, left = after_tonight(house, Telling([3, 0, 1, 0]), [0])
        self.assertIsInstance(later, House)
        self.assertEqual([later.wants.numbers, later.comings, later.rest, left],
                         [(2, 0, 1), (3, 1, 2, 4), 2, [2, 0, 1, 0]])

    def test_edges(self):
        later, left = after_tonight(House(Wants([0]), [1, 2], rest=60), [1, 0], [0])
        self.assertEqual([later.wants.numbers, later.comings, later.rest, left], [(), (1, 1), 60, [0, 0]])
        later, left = after_tonight(House(Wants([1, 1]), [1], rest=0), [LIMIT], [0])
        self.assertEqual([later.comings, left], [(1,), [LIMIT - 1]])
        later, left = after_tonight(House(Wants([1, 1]), []), [], [])
        self.assertEqual([later.wants.numbers, later.comings, left], [(1,), (), []])

    def test_more_or_fewer_people_than_wanted(self):
        house = House.all_there(Wants([1, 1, 1]), 3, rest=1)
        self.assertEqual(after_tonight(house, [1, 1, 1], [2, 0, 1])[1], [0, 0, 0])
        self.assertEqual(after_tonight(house, [9, 9, 9], [])[0].comings, (1, 1, 1))

    def test_against_its_words(self):
        for house, told in told_houses(40, 309):
            for people in right_sets(house, told):
                later, left = after_tonight(house, told, people)
                wanted, numbers = plain_after(house, told, people)
                self.assertEqual([later.wants.numbers, later.comings, later.rest, left],
                                 [wanted.wants.numbers, wanted.comings, wanted.rest, numbers])

    def test_refused(self):
        house = House(Wants([1, 1]), [1, 2, 1, 2], rest=1)
        told = [1, 0, 0, 1]
        self.refused(NoPerson(4), after_tonight, house, told, [1, 4, 4])
        self.refused(NamedTwice(1), after_tonight, house, told, [2, 1, 1, 4])
        self.refused(TooEarly(1, 3), after_tonight, house, told, [2, 3, 1])
        self.refused(TooEarly(1, 1), after_tonight, house, told, [1])
        self.refused(NoneLeft(2), after_tonight, house, told, [0, 2])

    def test_copies(self):
        house = House.all_there(Wants([1, 1]), 2)
        told, people = [1, 1], [0]
        _, left = after_tonight(house, told, people)
        left.append(7)
        for ask in ASKING:
            ask(house, told).append(7)
            self.assertNotIn(7, ask(house, told))
        tonight_fault(house, told, people)
        self.assertEqual([told, people, house.comings, after_tonight(house, told, people)[1]],
                         [[1, 1], [0], (1, 1), [0, 1]])


class Refused(Case):
    house = House(Wants([2, 1, 2]), [1, 1, 2], rest=1)

    def questions(self):
        yield from ASKING
        yield lambda house, told: tonight_fault(house, told, [99])

    def test_told_lists(self):
        for ask in [*self.questions(), lambda house, told: after_tonight(house, told, [99])]:
            self.refused(WrongLength(2, 3), ask, self.house, [-1, 0])
            self.refused(BadNumber(1, LIMIT + 1), ask, self.house, [2, LIMIT + 1, -1])
            self.refused(BadNumber(0, -1), ask, House(Wants([]), [1]), [-1])
            self.refused(NoNight(1), ask, House(Wants([]), [1]), [5])
            self.refused(NoNight(1), ask, House(Wants([]), []), [])

    def test_not_possible(self):
        for ask in self.questions():
            self.refused(NotPossible("sum", None), ask, self.house, [1, 1, 1])
            with self.assertRaises(NotPossible) as caught:
                ask(self.house, [2, 1, 2])
            self.assertEqual(caught.exception.reason, "stretches")
            self.assertEqual(caught.exception.cover.ends, judge(self.house, [2, 1, 2]).cover.ends)
