"""Plain searches over small houses, and what the tests share."""

import itertools
import unittest

from nightsoff.bounds import Bounds
from nightsoff.errors import NightsError
from nightsoff.firsts import first_choice
from nightsoff.houses import House
from nightsoff.wants import Wants


class Case(unittest.TestCase):
    def refused(self, wanted, call, *args, **named):
        """The call raises an error of the very class and fields of `wanted`."""
        with self.assertRaises(NightsError) as caught:
            call(*args, **named)
        self.assertIs(type(caught.exception), type(wanted))
        self.assertEqual(vars(caught.exception), vars(wanted))


class Numbers:
    """Numbers that look random and are the same in every run."""

    def __init__(self, seed):
        self.state = seed

    def below(self, bound):
        self.state = (self.state * 6364136223846793005 + 1442695040888963407) % 2 ** 64
        return (self.state >> 33) % bound

    def between(self, low, high):
        return low + self.below(high - low + 1)

    def several(self, count, low, high):
        return [self.between(low, high) for _ in range(count)]


def some_houses(count, seed, nights=4, people=3, want=2, rest=3):
    """Small houses, those without nights and without people among them."""
    numbers = Numbers(seed)
    found = [House(Wants([]), []), House(Wants([]), [1, 1], rest=0), House(Wants([1, 0]), [])]
    while len(found) < count:
        many = numbers.between(max(1, nights - 2), nights)
        wants = Wants(numbers.several(many, 0, want))
        comings = numbers.several(numbers.between(max(1, people - 2), people), 1, many + 1)
        if numbers.below(3) > 0:
            comings = [max(1, coming - 2) for coming in comings]
        found.append(House(wants, comings, rest=numbers.between(0, rest)))
    return found


def watched_houses(count, seed, nights=4, people=3, want=2, rest=3):
    """Such houses with wants that their people can keep, and that keep them busy."""
    return [house.changed(wants=Wants(first_choice(house, list(range(house.people)))))
            for house in some_houses(count, seed, nights, people, want, rest)]


def late_houses():
    """Houses that can be watched, into which people come on very different nights."""
    houses = []
    for wants in ([1, 1, 1, 1, 1], [2, 1, 0, 2, 1], [1, 3, 1, 2]):
        for comings in itertools.product((1, 2, 4), (1, 3, 5), (1, 4, 5)):
            for rest in (0, 1):
                house = House(Wants(wants), comings, rest=rest)
                houses.append(house.changed(wants=Wants(first_choice(house, [0, 1, 2]))))
    return houses


def large_house(rest=2):
    """A house of 60 nights and 30 people."""
    wants = Wants([(7 * night) % 13 for night in range(60)])
    return House(wants, [1 + (11 * person) % 61 for person in range(30)], rest=rest)


def subsets(people):
    """All lists of some of these people."""
    return [list(chosen) for size in range(len(people) + 1)
            for chosen in itertools.combinations(people, size)]


def all_plans(house, short=False):
    """The rows of every plan that fits the house, or fits it short."""
    def may_watch(person, rows):
        night = len(rows) + 1
        rested = all(person not in row for row in rows[len(rows) - min(len(rows), house.rest):])
        return house.comings[person] <= night and rested

    plans = [[]]
    for want in house.wants.numbers:
        plans = [rows + [row] for rows in plans
                 for row in subsets([p for p in range(len(house.comings)) if may_watch(p, rows)])
                 if len(row) == want or (short and len(row) < want)]
    return plans


def counts_in(rows, people):
    return tuple(sum(person in row for row in rows) for person in range(people))


def all_counts(house, short=False):
    """The different counts of all plans that fit, as a sorted list of tuples."""
    return sorted({counts_in(rows, house.people) for rows in all_plans(house, short)})


def all_covers(house):
    """The ends of every cover that fits the house."""
    covers = [[]]
    for night in range(1, len(house.wants.numbers) + 1):
        covers += [ends + [night] for ends in covers
                   if not ends or night - ends[-1] > house.rest]
    return covers


def plain_outside(house, ends):
    """The nights outside of a cover, straight from point 17."""
    inside = {night for end in ends for night in range(end - house.rest, end + 1)}
    return [night for night in range(1, house.nights + 1) if night not in inside]


def plain_ends_from(house, ends, person):
    return sum(end >= house.comings[person] for end in ends)


def plain_price(house, ends, prices):
    total = sum(house.wants[night] for night in plain_outside(house, ends))
    return total + sum(prices[person][plain_ends_from(house, ends, person)]
                       for person in range(house.people))


def plain_cheapest(house, prices):
    """The least price, and the cover that point 18 picks among the cheapest."""
    least = min(plain_price(house, ends, prices) for ends in all_covers(house))
    left = [ends for ends in all_covers(house) if plain_price(house, ends, prices) == least]
    chosen = []
    for night in range(house.nights, 0, -1):
        if any(end - house.rest <= night for end in chosen):
            continue
        stay = [ends for ends in left if night in plain_outside(house, ends)]
        if stay:
            left = stay
        else:
            chosen.insert(0, night)
            left = [ends for ends in left if night in ends]
    assert left == [chosen]
    return least, chosen


def plain_excess(house, ends, told):
    over = sum(max(0, number - plain_ends_from(house, ends, person))
               for person, number in enumerate(told))
    return over - sum(house.wants[night] for night in plain_outside(house, ends))


def in_bounds(numbers, bounds):
    return all(low <= number <= high for low, number, high in zip(bounds.lows, numbers, bounds.highs))


def all_worlds(house, bounds):
    """The numbers that lie in the bounds and can be true, as a sorted list of tuples."""
    return [counts for counts in all_counts(house) if in_bounds(counts, bounds)]


def some_bounds(house, count, seed):
    """Bounds for the people of the house, tight and wide ones, a few of them crossed."""
    numbers = Numbers(seed)
    found = [Bounds([0] * house.people, [0] * house.people), Bounds.up_to(house.people, house.nights),
             Bounds.up_to(house.people, 10 ** 30)]
    while len(found) < count:
        lows = numbers.several(house.people, 0, 2)
        found.append(Bounds(lows, [max(0, low + numbers.between(-1 + numbers.below(2), 3)) for low in lows]))
    return found


def falling_rows(total, most=None):
    """All falling rows with that sum and no number above `most`."""
    if total == 0:
        return [[]]
    return [[number] + row for number in range(1, min(total, total if most is None else most) + 1)
            for row in falling_rows(total - number, number)]


def first_sums(row, length):
    """The sums of the first 0, 1 .. numbers of the row; behind its end it has zeros."""
    return [sum(row[:count]) for count in range(length + 1)]


def row_lets(row, numbers):
    """Point 38, straight from its words."""
    falling = sorted(numbers, reverse=True)
    return sum(falling) == sum(row) and all(
        one <= two for one, two in zip(first_sums(falling, len(falling)), first_sums(row, len(falling))))


def all_told(house):
    """All lists of told numbers up to one night more than there are."""
    return map(list, itertools.product(range(house.nights + 2), repeat=house.people))
