import itertools

from nightsoff.errors import BadNumber, BadRest, NotFalling, TooLong
from nightsoff.houses import House
from nightsoff.judge import can_be_true
from nightsoff.rows import first_row, plain_row, row_allows, row_witness, turned
from nightsoff.tellings import LIMIT, Telling
from nightsoff.wants import Wants
from tests.search import (
    Case, Numbers, all_covers, all_told, falling_rows, first_sums, plain_outside, row_lets)


def some_runs(count, seed, nights, want=3):
    """Runs with their rests, those without nights and with a long rest among them."""
    numbers = Numbers(seed)
    found = [(Wants([]), 0), (Wants([]), 60), (Wants([0, 0]), 1), (Wants([3]), 60), (Wants([1, 2, 0]), 9)]
    while len(found) < count:
        run = Wants(numbers.several(numbers.between(1, nights), 0, want))
        found.append((run, numbers.between(0, 4)))
    return found


def plain_first_row(run, rest):
    """The first row straight from points 15 and 37."""
    sums = [0]
    while len(sums) < 2 or sums[-1] > sums[-2]:
        taken = []
        for night, want in enumerate(run):
            taken.append(min(want, len(sums) - sum(taken[max(0, night - rest):night])))
        sums.append(sum(taken))
    return [two - one for one, two in zip(sums, sums[1:-1])]


def plain_plain_row(run, rest):
    """The plain row from all covers."""
    house = House(run, [], rest=rest)
    covers = all_covers(house)
    most = []
    for count in range((len(run) + rest) // (rest + 1) + 1):
        most.append(max(sum(run) - sum(run[night] for night in plain_outside(house, ends))
                        for ends in covers if len(ends) == count))
    steps = [two - one for one, two in zip(most, most[1:])]
    return list(itertools.takewhile(lambda step: step > 0, steps))


class Turning(Case):
    def test_turned(self):
        self.assertEqual(turned([3, 1]), [2, 1, 1])
        self.assertEqual(turned([2, 1, 1]), [3, 1])
        self.assertEqual(turned([]), [])
        self.assertEqual(turned([1]), [1])
        self.assertEqual(turned([4]), [1, 1, 1, 1])
        self.assertEqual(turned([1800]), [1] * 1800)
        self.assertEqual(turned([1] * 1800), [1800])

    def test_turned_twice(self):
        for total in range(11):
            for row in falling_rows(total):
                wanted = [sum(number >= least for number in row) for least in range(1, (row or [0])[0] + 1)]
                self.assertEqual(turned(row), wanted)
                self.assertEqual(sum(turned(row)), total)
                self.assertEqual(turned(turned(row)), row)

    def test_not_falling(self):
        for row, place in (([0], 0), ([-1, 5], 0), ([2, 0], 1), ([2, 3], 1), ([3, 3, 1, 2], 3), ([1, 1, 0, 5], 2)):
            self.refused(NotFalling(place), turned, row)
            self.refused(NotFalling(place), row_allows, row, [-1] * 31)
            self.refused(NotFalling(place), row_witness, row, [-1] * 31)

    def test_the_row_stays_as_it_is(self):
        row = [2, 1]
        turned(row).append(5)
        row_witness(row, [1, 2])
        self.assertEqual([row, turned(row)], [[2, 1], [2, 1]])


class Making(Case):
    def test_rows(self):
        run = Wants([1, 1, 1, 1])
        self.assertEqual([first_row(run, 2), plain_row(run, 2)], [[2, 1, 1], [3, 1]])
        self.assertEqual([first_row(run, 0), plain_row(run, 0)], [[4], [1, 1, 1, 1]])
        self.assertEqual([first_row(run, 60), plain_row(run, 60)], [[1, 1, 1, 1], [4]])

    def test_empty_rows(self):
        for run in (Wants([]), Wants([0]), Wants([0, 0, 0])):
            for rest in (0, 2, 60):
                self.assertEqual([first_row(run, rest), plain_row(run, rest)], [[], []])

    def test_more_people_than_a_house_has(self):
        run = Wants([30] * 60)
        self.assertEqual(first_row(run, 60), [1] * 1800)
        self.assertEqual(plain_row(run, 60), [1800])
        self.assertEqual(first_row(run, 1), [30] * 60)
        self.assertEqual(plain_row(run, 1), [60] * 30)

    def test_wrong_rests(self):
        for rest in (-1, 61, LIMIT):
            self.refused(BadRest(rest), first_row, Wants([1]), rest)
            self.refused(BadRest(rest), plain_row, Wants([]), rest)

    def test_against_their_definitions(self):
        for run, rest in some_runs(250, 101, 9):
            first = first_row(run, rest)
            plain = plain_row(run, rest)
            self.assertEqual(first, plain_first_row(run, rest))
            self.assertEqual(plain, plain_plain_row(run, rest))
            self.assertEqual(turned(first), plain)
            self.assertEqual(turned(plain), first)
            self.assertEqual(sum(plain), abs(run))

    def test_long_runs_are_turned_of_each_other(self):
        for run, rest in some_runs(40, 102, 60, want=30):
            self.assertEqual(turned(first_row(run, rest)), plain_row(run, rest))

    def test_rows_are_new(self):
        run = Wants([1, 1, 1, 1])
        first_row(run, 2).append(9)
        plain_row(run, 2).append(9)
        self.assertEqual([first_row(run, 2), plain_row(run, 2), run.numbers], [[2, 1, 1], [3, 1], (1, 1, 1, 1)])


class Allowing(Case):
    def test_witness(self):
        row = [2, 1, 1]
        self.assertEqual(row_witness(row, [2, 0, 2]), ("most", 2, [0, 2]))
        self.assertEqual(row_witness(row, [0, 1, 3]), ("most", 1, [2]))
        self.assertEqual(row_witness(row, [1, 1, 1]), ("sum", 3, 4))
        self.assertEqual(row_witness(row, [LIMIT]), ("sum", LIMIT, 4))
        self.assertEqual(row_witness(row, [4]), ("most", 1, [0]))
        self.assertIsNone(row_witness(row, [1, 1, 2]))
        self.assertIsNone(row_witness(row, [1, 1, 1, 1, 0]))

    def test_equal_numbers_take_the_lower_person_first(self):
        self.assertEqual(row_witness([3, 1, 1, 1], [0, 3, 3]), ("most", 2, [1, 2]))
        self.assertEqual(row_witness([2, 1, 1, 1, 1], [2, 2, 0, 2]), ("most", 2, [0, 1]))
        self.assertEqual(row_witness([2, 2, 1, 1], [1, 1, 2, 2]), None)

    def test_behind_its_end_a_row_has_zeros(self):
        self.assertIsNone(row_witness([2, 2], [2, 2, 0, 0]))
        self.assertEqual(row_witness([], [0, 0]), None)
        self.assertEqual(row_witness([], []), None)
        self.assertEqual(row_witness([], [0, 1]), ("sum", 1, 0))
        self.assertEqual(row_witness([1], []), ("sum", 0, 1))

    def test_allows(self):
        self.assertIs(row_allows([2, 1, 1], [1, 2, 1]), True)
        self.assertIs(row_allows([2, 1, 1], Telling([2, 0, 2])), False)
        self.assertIs(row_allows([2, 1, 1], Telling([0, 1, 1, 2])), True)
        self.assertEqual(row_witness([2, 1, 1], Telling([2, 0, 2])), ("most", 2, [0, 2]))
        self.assertIs(row_allows([], Telling([])), True)

    def test_wrong_numbers(self):
        for ask in (row_allows, row_witness):
            self.refused(TooLong(31), ask, [1], [-1] * 31)
            self.refused(BadNumber(1, -1), ask, [1], [0, -1, LIMIT + 1])
            self.refused(BadNumber(0, LIMIT + 1), ask, [1], [LIMIT + 1, -1])
        self.assertIs(row_allows([1] * 30, [1] * 30), True)
        self.assertIs(row_allows([LIMIT], [LIMIT]), True)

    def test_against_the_words_of_the_point(self):
        for total in range(7):
            for row in falling_rows(total):
                for people in range(4):
                    for numbers in itertools.product(range(total + 2), repeat=people):
                        self.assertIs(row_allows(row, list(numbers)), row_lets(row, numbers))
                        self.check_witness(row, list(numbers))

    def check_witness(self, row, numbers):
        witness = row_witness(row, numbers)
        if witness is None:
            self.assertTrue(row_lets(row, numbers))
        elif witness[0] == "sum":
            self.assertEqual(witness, ("sum", sum(numbers), sum(row)))
            self.assertNotEqual(witness[1], witness[2])
        else:
            word, count, persons = witness
            self.assertEqual([word, sum(numbers)], ["most", sum(row)])
            falling = sorted(numbers, reverse=True)
            wrong = [j for j in range(1, len(numbers) + 1) if sum(falling[:j]) > sum(row[:j])]
            self.assertEqual(count, wrong[0])
            order = sorted(range(len(numbers)), key=lambda person: -numbers[person])
            self.assertEqual(persons, sorted(order[:count]))

    def test_against_verdicts_for_every_number_of_people(self):
        for run, rest in some_runs(40, 103, 5, want=2):
            row = first_row(run, rest)
            plain = Wants(plain_row(run, rest))
            for people in range(4):
                house = House.all_there(run, people, rest=rest)
                other = House.all_there(plain, people, rest=0)
                for told in all_told(house):
                    allowed = row_allows(row, told)
                    self.assertIs(can_be_true(house, told), allowed)
                    self.assertIs(can_be_true(other, told), allowed)

    def test_witnesses_are_new(self):
        row_witness([2, 1, 1], [2, 0, 2])[2].append(9)
        self.assertEqual(row_witness([2, 1, 1], [2, 0, 2]), ("most", 2, [0, 2]))


class NightsOffBetween(Case):
    def test_rest_or_more_nights_off(self):
        for (left, rest), (right, _) in zip(some_runs(60, 104, 6), some_runs(60, 105, 6)[::-1]):
            for off in (rest, rest + 1):
                if len(left) + off + len(right) > 60:
                    continue
                joined = left + Wants([0] * off) + right
                rows = plain_row(left, rest) + plain_row(right, rest)
                self.assertEqual(plain_row(joined, rest), sorted(rows, reverse=True))
                pairs = itertools.zip_longest(first_row(left, rest), first_row(right, rest), fillvalue=0)
                self.assertEqual(first_row(joined, rest), [one + two for one, two in pairs])

    def test_fewer_nights_off(self):
        strict = False
        for (left, rest), (right, _) in zip(some_runs(60, 106, 6), some_runs(60, 107, 6)[::-1]):
            rows = [plain_row(left + Wants([0] * off) + right, rest) for off in range(min(rest, 40) + 1)]
            for fewer, more in zip(rows, rows[1:]):
                pairs = list(zip(first_sums(fewer, 20), first_sums(more, 20)))
                self.assertTrue(all(one >= two for one, two in pairs))
                strict = strict or any(one > two for one, two in pairs)
        self.assertTrue(strict)
