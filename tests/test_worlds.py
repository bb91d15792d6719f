import itertools

from nightsoff.bounds import Bounds
from nightsoff.covers import Cover
from nightsoff.errors import NamedTwice, NoPerson, NoWorld, WrongLength
from nightsoff.houses import House
from nightsoff.settle import settle
from nightsoff.tellings import LIMIT
from nightsoff.wants import Wants
from nightsoff.worlds import find_world, group_least, group_most, has_world, raised
from tests.search import (
    Case, all_worlds, plain_cheapest, some_bounds, some_houses, subsets)


def low_prices(house, lows, ends):
    return [[-max(0, low - count) for count in range(ends + 1)] for low in lows]


def high_prices(house, highs, ends):
    return [[min(high, count) for count in range(ends + 1)] for high in highs]


def ends_of(house):
    return (house.nights + house.rest) // (house.rest + 1)


def reason_against(house, bounds):
    """The reason against a world with its person and its ends, straight from point 29."""
    for person in range(house.people):
        if bounds.lows[person] > bounds.highs[person]:
            return ("crossed", person, None)
    price, ends = plain_cheapest(house, low_prices(house, bounds.lows, ends_of(house)))
    if price < 0:
        return ("low", None, ends)
    price, ends = plain_cheapest(house, high_prices(house, bounds.highs, ends_of(house)))
    if price < sum(house.wants):
        return ("high", None, ends)
    return None


def questions(house, bounds):
    """Every function that wants a world."""
    everybody = list(range(house.people))
    return [lambda: find_world(house, bounds), lambda: raised(house, bounds, everybody[::-1]),
            lambda: group_most(house, bounds, everybody[:1]), lambda: group_least(house, bounds, [])]


class NoWorlds(Case):
    house = House(Wants([1, 1, 1, 1]), [1, 1, 1], rest=2)

    def refused_by_all(self, bounds, reason, person, ends):
        self.assertIs(has_world(self.house, bounds), False)
        for ask in questions(self.house, bounds):
            with self.assertRaises(NoWorld) as caught:
                ask()
            error = caught.exception
            self.assertEqual([error.reason, error.person], [reason, person])
            if ends is None:
                self.assertIsNone(error.cover)
            else:
                self.assertIsInstance(error.cover, Cover)
                self.assertEqual(list(error.cover), ends)

    def test_crossed(self):
        self.refused_by_all(Bounds([0, 2, 9], [3, 1, 0]), "crossed", 1, None)

    def test_low(self):
        self.refused_by_all(Bounds([3, 0, 0], [3, 3, 3]), "low", None, [3])
        self.refused_by_all(Bounds([LIMIT, 0, 0], [LIMIT, 0, 0]), "low", None, [3])

    def test_high(self):
        self.refused_by_all(Bounds([0, 0, 0], [2, 1, 0]), "high", None, [3])
        self.refused_by_all(Bounds([0, 0, 0], [0, 0, 0]), "high", None, [1, 4])

    def test_against_all_covers(self):
        met = set()
        for house in some_houses(60, 71):
            for bounds in some_bounds(house, 12, 72):
                wanted = reason_against(house, bounds)
                self.assertIs(has_world(house, bounds), wanted is None)
                self.assertIs(has_world(house, bounds), all_worlds(house, bounds) != [])
                try:
                    find_world(house, bounds)
                    found = None
                except NoWorld as error:
                    ends = None if error.cover is None else list(error.cover)
                    found = (error.reason, error.person, ends)
                self.assertEqual(found, wanted)
                met.add(found and found[0])
        self.assertEqual(met, {None, "crossed", "low", "high"})


class WrongArguments(Case):
    house = House(Wants([1, 1]), [1, 1], rest=0)
    crossed = Bounds([1, 0], [0, 0])

    def test_bounds_first(self):
        for bounds in (Bounds.up_to(1, 2), Bounds.up_to(3, 2), Bounds([1], [0])):
            wanted = WrongLength(len(bounds), 2)
            self.refused(wanted, has_world, self.house, bounds)
            self.refused(wanted, find_world, self.house, bounds)
            self.refused(wanted, raised, self.house, bounds, [5])
            self.refused(wanted, group_most, self.house, bounds, [5])
            self.refused(wanted, group_least, self.house, bounds, [5])

    def test_people_before_the_world(self):
        for ask in (raised, group_most, group_least):
            self.refused(NoPerson(2), ask, self.house, self.crossed, [0, 2, 0])
            self.refused(NoPerson(-1), ask, self.house, self.crossed, [-1])
            self.refused(NamedTwice(1), ask, self.house, self.crossed, [1, 1, 7])

    def test_orders_name_everybody(self):
        self.refused(WrongLength(1, 2), raised, self.house, self.crossed, [1])
        self.refused(WrongLength(0, 2), raised, self.house, self.crossed, [])

    def test_nothing_is_changed(self):
        order = [1, 0]
        bounds = Bounds.up_to(2, 2)
        raised(self.house, bounds, order)
        group_most(self.house, bounds, order)
        group_least(self.house, bounds, order)
        self.assertEqual([order, bounds.lows, bounds.highs], [[1, 0], (0, 0), (2, 2)])

    def test_answers_are_new(self):
        bounds = Bounds.up_to(2, 2)
        for ask in (lambda: find_world(self.house, bounds), lambda: raised(self.house, bounds, [0, 1]),
                    lambda: group_most(self.house, bounds, [0])[1],
                    lambda: group_least(self.house, bounds, [1])[1]):
            world = ask()
            self.assertIsInstance(world, list)
            self.assertEqual(world, [2, 0])
            world[0] = 7
            self.assertEqual(ask(), [2, 0])


class Raising(Case):
    def test_first_world(self):
        house = House.all_there(Wants([1, 1, 1, 1]), 3, rest=2)
        self.assertEqual(find_world(house, Bounds.up_to(3, 4)), [2, 1, 1])
        self.assertEqual(find_world(house, Bounds.up_to(3, LIMIT)), [2, 1, 1])
        self.assertEqual(find_world(house, Bounds([0, 0, 2], [4, 4, 4])), [1, 1, 2])
        self.assertEqual(find_world(house, Bounds.exact([1, 2, 1])), [1, 2, 1])
        self.assertEqual(raised(house, Bounds.up_to(3, 4), [2, 0, 1]), [1, 1, 2])

    def test_nothing_and_nobody(self):
        self.assertEqual(find_world(House(Wants([]), []), Bounds([], [])), [])
        self.assertEqual(find_world(House(Wants([]), [1, 1], rest=60), Bounds.up_to(2, LIMIT)), [0, 0])
        self.assertEqual(raised(House(Wants([0, 0]), []), Bounds([], []), []), [])
        self.assertEqual(group_most(House(Wants([]), []), Bounds([], []), [])[:2], (0, []))
        self.assertEqual(group_least(House(Wants([]), []), Bounds([], []), [])[:2], (0, []))
        self.assertIs(has_world(House(Wants([1]), []), Bounds([], [])), False)

    def test_a_rest_above_the_nights(self):
        house = House(Wants([1, 1]), [1, 1, 1], rest=60)
        self.assertEqual(find_world(house, Bounds.up_to(3, 9)), [1, 1, 0])
        self.assertEqual(raised(house, Bounds([0, 1, 0], [9, 9, 9]), [2, 1, 0]), [0, 1, 1])

    def test_against_all_worlds(self):
        for house in some_houses(60, 73):
            for bounds in some_bounds(house, 8, 74):
                worlds = all_worlds(house, bounds)
                if not worlds:
                    continue
                self.assertEqual(find_world(house, bounds), list(max(worlds)))
                for order in itertools.permutations(range(house.people)):
                    first = max(worlds, key=lambda world: [world[person] for person in order])
                    self.assertEqual(raised(house, bounds, list(order)), list(first))

    def test_each_step_against_settling(self):
        for house in some_houses(60, 75):
            for bounds in some_bounds(house, 8, 76):
                if not has_world(house, bounds):
                    continue
                numbers = list(bounds.lows)
                for person in range(house.people):
                    # A world has no number above n, and nobody keeps more.
                    for number in range(numbers[person], min(bounds.highs[person], house.nights) + 1):
                        trial = numbers[:person] + [number] + numbers[person + 1:]
                        if settle(house, trial).missing == 0:
                            numbers = trial
                self.assertEqual(find_world(house, bounds), numbers)


class Groups(Case):
    def test_most_and_least(self):
        house = House.all_there(Wants([1, 1, 1, 1]), 3, rest=2)
        number, world, cover = group_least(house, Bounds.up_to(3, 4), [1, 0])
        self.assertEqual([number, world, list(cover)], [2, [1, 1, 2], [3]])
        self.assertEqual(group_least(house, Bounds.up_to(3, 4), [])[:2], (0, [2, 1, 1]))
        self.assertEqual(group_most(house, Bounds.up_to(3, 4), [])[:2], (0, [2, 1, 1]))
        self.assertEqual(group_most(house, Bounds.up_to(3, 4), [2, 0, 1])[:2], (4, [2, 1, 1]))

    def test_against_all_worlds(self):
        for house in some_houses(40, 77):
            for bounds in some_bounds(house, 7, 78):
                worlds = all_worlds(house, bounds)
                if not worlds:
                    continue
                for group in subsets(range(house.people)):
                    self.check_group(house, bounds, worlds, group)

    def check_group(self, house, bounds, worlds, group):
        others = [person for person in range(house.people) if person not in group]
        sums = [sum(world[person] for person in group) for world in worlds]
        ends = ends_of(house)
        lows = low_prices(house, bounds.lows, ends)
        highs = high_prices(house, bounds.highs, ends)
        number, world, cover = group_most(house, bounds, group[::-1])
        self.assertEqual(number, max(sums))
        self.assertEqual(world, raised(house, bounds, group + others))
        self.assertEqual(sum(world[person] for person in group), number)
        self.assertIn(tuple(world), worlds)
        prices = [highs[p] if p in group else lows[p] for p in range(house.people)]
        self.assertEqual((number, list(cover)), plain_cheapest(house, prices))
        number, world, cover = group_least(house, bounds, group)
        self.assertEqual(number, min(sums))
        self.assertEqual(sum(world[person] for person in group), number)
        self.assertEqual((world, cover.ends), (group_most(house, bounds, others)[1],
                                               group_most(house, bounds, others)[2].ends))
