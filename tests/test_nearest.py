from nightsoff.compare import can_be_watched
from nightsoff.covers import Cover
from nightsoff.errors import BadNumber, NotWatched, WrongLength
from nightsoff.houses import House
from nightsoff.nearest import Nearest, nearest
from nightsoff.settle import settle
from nightsoff.tellings import LIMIT, Telling
from nightsoff.wants import Wants
from tests.search import Case, all_counts, all_told, some_houses


def distance(one, two):
    return sum(abs(a - b) for a, b in zip(one, two))


def raised_from_kept(house, told):
    """Take off the unkept numbers and raise one person after another by settling."""
    numbers = [number - unkept for number, unkept in zip(told, settle(house, told).unkept)]
    for person in range(house.people):
        while True:
            trial = numbers[:person] + [numbers[person] + 1] + numbers[person + 1:]
            if settle(house, trial).missing > 0:
                break
            numbers = trial
    return numbers


def first_lacking_end(house):
    for end in range(1, house.nights + 1):
        wanted = sum(house.wants[night] for night in range(max(1, end - house.rest), end + 1))
        if wanted > sum(coming <= end for coming in house.comings):
            return end
    return None


class Finding(Case):
    def test_nearest(self):
        house = House(Wants([2, 1, 2]), [1, 1, 2], rest=1)
        found = nearest(house, [2, 1, 2])
        self.assertIsInstance(found, Nearest)
        self.assertIsInstance(found.numbers, list)
        self.assertIsInstance(found.cover, Cover)
        self.assertEqual([found.distance, found.numbers, list(found.cover)], [2, [2, 2, 1], [1, 3]])

    def test_numbers_that_can_be_true(self):
        house = House(Wants([2, 1, 2]), [1, 1, 2], rest=1)
        found = nearest(house, Telling([2, 2, 1]))
        self.assertEqual([found.distance, found.numbers], [0, [2, 2, 1]])
        self.assertEqual(found.cover.ends, settle(house, [2, 2, 1]).cover.ends)

    def test_edges(self):
        house = House.all_there(Wants([1, 1, 1]), 3, rest=60)
        self.assertEqual([nearest(house, [0, 0, 0]).distance, nearest(house, [0, 0, 0]).numbers], [3, [1, 1, 1]])
        found = nearest(house, [LIMIT, 0, LIMIT])
        self.assertEqual([found.distance, found.numbers], [2 * LIMIT - 1, [1, 1, 1]])

    def test_nothing_and_nobody(self):
        found = nearest(House(Wants([]), []), [])
        self.assertEqual([found.distance, found.numbers, list(found.cover)], [0, [], []])
        found = nearest(House(Wants([]), [1, 1]), [3, LIMIT])
        self.assertEqual([found.distance, found.numbers], [LIMIT + 3, [0, 0]])
        self.assertEqual(nearest(House(Wants([0]), []), []).numbers, [])

    def test_against_all_numbers(self):
        for house in some_houses(80, 161):
            counts = all_counts(house)
            for told in all_told(house):
                if not counts:
                    self.refused(NotWatched(first_lacking_end(house)), nearest, house, told)
                    continue
                found = nearest(house, told)
                settled = settle(house, told)
                self.assertEqual(found.distance, min(distance(told, numbers) for numbers in counts))
                self.assertEqual(found.distance, 2 * settled.missing + house.whole - sum(told))
                self.assertEqual(distance(told, found.numbers), found.distance)
                self.assertIn(tuple(found.numbers), counts)
                self.assertEqual(found.numbers, raised_from_kept(house, told))
                self.assertEqual(found.cover.ends, settled.cover.ends)

    def test_answers_are_new(self):
        house = House(Wants([2, 1, 2]), [1, 1, 2], rest=1)
        told = [2, 1, 2]
        nearest(house, told).numbers.append(9)
        self.assertEqual([nearest(house, told).numbers, told], [[2, 2, 1], [2, 1, 2]])


class Refused(Case):
    def test_not_watched(self):
        house = House(Wants([1, 2, 3]), [1, 2], rest=0)
        self.refused(NotWatched(3), nearest, house, [0, 0])
        self.refused(NotWatched(2), nearest, house.changed(rest=1), [0, 0])
        self.refused(NotWatched(1), nearest, House(Wants([1, 1]), []), [])
        self.refused(NotWatched(1), nearest, House(Wants([2, 9]), [1]), [0])

    def test_told_lists_first(self):
        house = House(Wants([9]), [1, 1])
        self.refused(WrongLength(1, 2), nearest, house, [-1])
        self.refused(WrongLength(3, 2), nearest, house, Telling([1, 1, 1]))
        self.refused(BadNumber(0, -1), nearest, house, [-1, LIMIT + 1])
        self.refused(BadNumber(1, LIMIT + 1), nearest, house, [0, LIMIT + 1])

    def test_against_the_most_of_all(self):
        met = 0
        for house in some_houses(150, 162):
            end = first_lacking_end(house)
            self.assertIs(can_be_watched(house), end is None)
            if end is not None:
                met += 1
                self.refused(NotWatched(end), nearest, house, [0] * house.people)
        self.assertGreater(met, 20)
