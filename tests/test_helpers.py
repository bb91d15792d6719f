from nightsoff.compare import can_be_watched
from nightsoff.helpers import helpers_needed
from nightsoff.houses import House
from nightsoff.wants import Wants
from tests.search import Case, all_counts, some_houses


class Helpers(Case):
    def test_helpers(self):
        self.assertEqual(helpers_needed(House(Wants([2, 1, 2]), [1, 1, 2], rest=1)), (0, None))
        self.assertEqual(helpers_needed(House(Wants([2, 1, 2]), [1, 1, 4], rest=1)), (1, 2))
        self.assertEqual(helpers_needed(House(Wants([2, 1, 3]), [1, 1, 3], rest=1)), (1, 2))
        self.assertEqual(helpers_needed(House(Wants([2, 1, 3]), [1, 2, 2], rest=1)), (1, 1))
        self.assertEqual(helpers_needed(House(Wants([2, 1, 5]), [1, 2, 2], rest=1)), (3, 3))

    def test_the_least_end_counts(self):
        self.assertEqual(helpers_needed(House(Wants([3, 3, 3]), [1], rest=0)), (2, 1))
        self.assertEqual(helpers_needed(House(Wants([1, 3, 0, 3]), [1], rest=1)), (3, 2))

    def test_nothing_and_nobody(self):
        self.assertEqual(helpers_needed(House(Wants([]), [])), (0, None))
        self.assertEqual(helpers_needed(House(Wants([]), [1, 1], rest=0)), (0, None))
        self.assertEqual(helpers_needed(House(Wants([0, 0]), [])), (0, None))
        self.assertEqual(helpers_needed(House(Wants([0, 4]), [], rest=60)), (4, 2))
        self.assertEqual(helpers_needed(House(Wants([30] * 60), [61], rest=60)), (1800, 60))
        self.assertEqual(helpers_needed(House(Wants([1, 1]), [3], rest=0)), (1, 1))

    def test_a_rest_above_the_nights(self):
        self.assertEqual(helpers_needed(House(Wants([1, 1, 1]), [1, 1], rest=3)), (1, 3))
        self.assertEqual(helpers_needed(House(Wants([1, 1, 1]), [1, 1], rest=60)), (1, 3))

    def test_against_every_number(self):
        met = 0
        for house in some_houses(200, 131):
            number, end = helpers_needed(house)
            for more in range(number + 2):
                helped = house.changed(comings=list(house.comings) + [1] * more)
                self.assertIs(can_be_watched(helped), more >= number)
                self.assertIs(all_counts(helped) != [], more >= number)
            if number == 0:
                self.assertIsNone(end)
            else:
                met += 1
                lacks = [sum(house.wants[k] for k in range(max(1, e - house.rest), e + 1))
                         - sum(coming <= e for coming in house.comings) for e in range(1, house.nights + 1)]
                self.assertEqual(number, max(lacks))
                self.assertEqual(end, min(e for e, lack in enumerate(lacks, start=1) if lack == number))
        self.assertGreater(met, 30)
