from nightsoff.covers import Cover, bound_of, ends_from, most_stretches
from nightsoff.errors import NotWatched
from nightsoff.evenness import Evenest, evenest
from nightsoff.houses import House
from nightsoff.tellings import Telling
from nightsoff.wants import Wants
from nightsoff.walks import walk_tellings
from tests.search import Case, all_counts, late_houses, plain_cheapest, some_houses, watched_houses


def raised_evenly(house, kept):
    """Point 52 straight from its words; `kept` are all numbers that can be kept."""
    numbers = (0,) * house.people
    while sum(numbers) < house.whole:
        trials = [numbers[:person] + (numbers[person] + 1,) + numbers[person + 1:]
                  for person in range(house.people)]
        _, person = min((numbers[person], person) for person, trial in enumerate(trials) if trial in kept)
        numbers = trials[person]
    return numbers


def level_prices(house, entries, height):
    counts = range(most_stretches(house) + 1)
    return [[w - entry if entry < height else min(0, w - height) if entry == height else 0 for w in counts]
            for entry in entries]


class Evening(Case):
    house = House(Wants([1, 1, 1, 1, 1, 1]), [1, 1, 6], rest=1)

    def test_levels(self):
        found = evenest(self.house)
        self.assertIsInstance(found, Evenest)
        self.assertIsInstance(found.telling, Telling)
        self.assertIsInstance(found.levels, tuple)
        self.assertEqual(found.telling.entries, (3, 2, 1))
        (height, persons, cover), = found.levels
        self.assertIsInstance(cover, Cover)
        self.assertIsInstance(persons, list)
        self.assertEqual([height, persons, list(cover)], [2, [2], [1, 3, 5]])

    def test_a_level_that_nobody_has(self):
        # One person comes so late that the numbers 1 and 2 are skipped.
        found = evenest(House(Wants([1, 1, 1, 1]), [1, 5], rest=0))
        self.assertEqual(found.telling.entries, (4, 0))
        self.assertEqual([(height, persons) for height, persons, _ in found.levels], [(1, [1]), (2, [1]), (3, [1])])

    def test_nothing_and_nobody(self):
        for house in (House(Wants([]), []), House(Wants([0, 0]), []), House(Wants([]), [1, 1]),
                      House(Wants([0]), [1, 2], rest=60)):
            found = evenest(house)
            self.assertEqual([found.telling.entries, found.levels], [(0,) * house.people, ()])

    def test_edges(self):
        self.assertEqual(evenest(House.all_there(Wants([1, 1, 1]), 3, rest=60)).telling.entries, (1, 1, 1))
        self.assertEqual(evenest(House(Wants([1, 0, 1]), [4, 1, 4], rest=1)).telling.entries, (0, 2, 0))
        self.assertEqual(evenest(House.all_there(Wants([2, 2, 1]), 3, rest=0)).telling.entries, (2, 2, 1))

    def test_not_watched(self):
        self.refused(NotWatched(2), evenest, House(Wants([1, 2, 3]), [1, 1], rest=1))
        self.refused(NotWatched(1), evenest, House(Wants([1]), []))
        self.refused(NotWatched(1), evenest, House(Wants([2, 9]), [1, 3]))

    def test_against_all_tellings(self):
        levels = 0
        for house in some_houses(100, 201) + watched_houses(50, 202, people=4) + late_houses():
            counts = all_counts(house)
            if not counts:
                with self.assertRaises(NotWatched):
                    evenest(house)
                continue
            found = evenest(house)
            self.assertEqual(found.telling.entries, raised_evenly(house, all_counts(house, short=True)))
            self.assertIn(found.telling.entries, counts)
            for telling in walk_tellings(house):
                self.assertTrue(found.telling.no_steeper(telling))
            self.look_at_levels(house, found)
            levels += len(found.levels)
        self.assertGreater(levels, 50)

    def look_at_levels(self, house, found):
        entries = found.telling.entries
        heights = [height for height, _, _ in found.levels]
        self.assertEqual(heights, [v for v in range(house.nights + 2)
                                   if entries and min(entries) < v < max(entries)])
        for height, persons, cover in found.levels:
            _, ends = plain_cheapest(house, level_prices(house, entries, height))
            self.assertEqual(list(cover), ends)
            self.assertEqual(persons, [
                person for person, entry in enumerate(entries)
                if entry < height or (entry == height and ends_from(house, cover, person) < height)])
            self.assertEqual(bound_of(house, cover, persons), sum(entries[person] for person in persons))

    def test_persons_are_copies(self):
        found = evenest(self.house)
        found.levels[0][1].append(7)
        self.assertEqual(evenest(self.house).levels[0][1], [2])
