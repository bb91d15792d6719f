from nightsoff.compare import can_be_watched, compare
from nightsoff.errors import WrongLength
from nightsoff.houses import House
from nightsoff.judge import can_be_true
from nightsoff.orders import order_counts
from nightsoff.wants import Wants
from tests.search import Case, Numbers, all_counts, some_houses


def most_by_search(house, people):
    return max(sum(counts[person] for person in people) for counts in all_counts(house, short=True))


def plain_compare(house, other):
    """Point 44, with the most of a set from all plans."""
    everybody = list(range(house.people))
    if not all_counts(other):
        return None
    if sum(house.wants) != sum(other.wants):
        return order_counts(other, everybody)
    for number in range(2 ** house.people):
        chosen = [person for person in everybody if number & 2 ** person]
        if most_by_search(house, chosen) < most_by_search(other, chosen):
            return order_counts(other, chosen + [person for person in everybody if person not in chosen])
    return None


def some_pairs(count, seed):
    """Pairs of houses with the same number of people, most of them with the same whole."""
    numbers = Numbers(seed)
    pairs = []
    while len(pairs) < count:
        nights = numbers.between(1, 4)
        wants = numbers.several(nights, 0, 2)
        moved = list(wants)
        moved[0], moved[-1] = moved[-1], moved[0]
        people = numbers.between(0, 3)
        one = House(Wants(wants), numbers.several(people, 1, 2), rest=numbers.between(0, 2))
        two = House(Wants(moved + [numbers.below(4) // 3]), numbers.several(people, 1, 2),
                    rest=numbers.between(0, 2))
        pairs += [(one, two), (two, one)]
    return pairs


class Watched(Case):
    def test_watched(self):
        self.assertIs(can_be_watched(House(Wants([2, 1, 2]), [1, 1, 2], rest=1)), True)
        self.assertIs(can_be_watched(House(Wants([2, 1, 2]), [1, 1, 3], rest=1)), False)
        self.assertIs(can_be_watched(House(Wants([1, 1]), [1, 1], rest=60)), True)
        self.assertIs(can_be_watched(House(Wants([1]), [2])), False)

    def test_nothing_and_nobody(self):
        self.assertIs(can_be_watched(House(Wants([]), [])), True)
        self.assertIs(can_be_watched(House(Wants([]), [1])), True)
        self.assertIs(can_be_watched(House(Wants([0, 0]), [])), True)
        self.assertIs(can_be_watched(House(Wants([0, 1]), [])), False)

    def test_against_all_plans(self):
        for house in some_houses(250, 121):
            self.assertIs(can_be_watched(house), all_counts(house) != [])


class Comparing(Case):
    def test_a_longer_rest(self):
        free = House.all_there(Wants([1, 1, 1, 1]), 3, rest=0)
        tired = House.all_there(Wants([1, 1, 1, 1]), 3, rest=2)
        self.assertIsNone(compare(free, tired))
        self.assertEqual(compare(tired, free), [4, 0, 0])
        self.assertIsNone(compare(tired, tired))

    def test_the_first_set_counts(self):
        here = House(Wants([1, 1]), [1, 1, 1], rest=0)
        late = House(Wants([1, 1]), [1, 1, 2], rest=0)
        self.assertEqual(compare(late, here), [0, 0, 2])
        self.assertIsNone(compare(here, late))
        both_late = House(Wants([1, 1]), [1, 2, 2], rest=0)
        self.assertEqual(compare(both_late, here), [0, 2, 0])
        pairs = House.all_there(Wants([1, 0, 1]), 2, rest=2)
        self.assertEqual(compare(pairs, House.all_there(Wants([2]), 2)), None)
        self.assertEqual(compare(House.all_there(Wants([2]), 2), House.all_there(Wants([1, 1]), 2)), None)
        self.assertEqual(compare(House.all_there(Wants([2]), 2), House.all_there(Wants([1, 1]), 2, rest=0)), [2, 0])

    def test_other_wholes(self):
        one = House(Wants([1, 1]), [1, 1], rest=1)
        two = House(Wants([1, 1, 1]), [2, 1], rest=1)
        self.assertEqual(compare(one, two), [1, 2])
        self.assertEqual(compare(two, one), [1, 1])

    def test_a_house_that_cannot_be_watched(self):
        one = House(Wants([1, 1]), [1, 1], rest=1)
        none = House(Wants([2, 2]), [1, 1], rest=1)
        self.assertIsNone(compare(one, none))
        self.assertEqual(compare(none, one), [1, 1])
        self.assertIsNone(compare(none, none))
        # The same whole, and the house itself cannot be watched.
        self.assertEqual(compare(House(Wants([2, 0]), [1, 2]), House(Wants([1, 1]), [1, 1])), [1, 1])

    def test_nothing_and_nobody(self):
        self.assertIsNone(compare(House(Wants([]), []), House(Wants([0]), [])))
        self.assertIsNone(compare(House(Wants([]), []), House(Wants([1]), [])))
        self.assertIsNone(compare(House(Wants([1]), []), House(Wants([1]), [])))
        self.assertEqual(compare(House(Wants([1]), []), House(Wants([]), [])), [])
        self.assertIsNone(compare(House(Wants([]), [1]), House(Wants([0]), [2], rest=60)))

    def test_other_numbers_of_people(self):
        self.refused(WrongLength(1, 2), compare, House(Wants([1]), [1, 1]), House(Wants([1]), [1]))
        # Ahead of every answer, also where the other house cannot be watched.
        self.refused(WrongLength(0, 1), compare, House(Wants([1]), [1]), House(Wants([5]), []))
        self.refused(WrongLength(2, 0), compare, House(Wants([]), []), House(Wants([1]), [1, 1]))

    def test_answers_are_new(self):
        free = House.all_there(Wants([1, 1]), 2, rest=0)
        tired = House.all_there(Wants([1, 1]), 2, rest=1)
        compare(tired, free).append(9)
        self.assertEqual(compare(tired, free), [2, 0])

    def test_against_all_tellings(self):
        met = set()
        for house, other in some_pairs(300, 122):
            found = compare(house, other)
            self.assertEqual(found, plain_compare(house, other))
            mine = all_counts(house)
            theirs = all_counts(other)
            self.assertIs(found is None, set(theirs) <= set(mine))
            if found is not None:
                self.assertIn(tuple(found), theirs)
                self.assertNotIn(tuple(found), mine)
                self.assertIs(can_be_true(other, found), True)
                self.assertIs(can_be_true(house, found), False)
            met.add((found is None, theirs == [], house.whole == other.whole))
        self.assertEqual(len(met), 5)
