from nightsoff.cheapest import cheapest, cover_of, price_of
from nightsoff.covers import Cover, bound_of, most_stretches
from nightsoff.errors import BadCover, NamedTwice, NoPerson, WrongLength
from nightsoff.firsts import most_of
from nightsoff.houses import House
from nightsoff.wants import Wants
from tests.search import (
    Case, Numbers, all_covers, large_house, plain_cheapest, plain_price, some_houses, subsets)

HIGH = 10 ** 40


class Prices(Case):
    house = House(Wants([1, 2, 3, 4]), [1, 3, 5], rest=1)
    prices = [[0, 10, 20], [5, 500, 5000], [7, -1, -1]]

    def test_price_of(self):
        self.assertEqual(price_of(self.house, Cover([]), self.prices), 10 + 0 + 5 + 7)
        self.assertEqual(price_of(self.house, Cover([1, 4]), self.prices), 2 + 20 + 500 + 7)
        self.assertEqual(price_of(self.house, Cover([2]), self.prices), 7 + 10 + 5 + 7)
        self.assertEqual(price_of(House(Wants([3]), []), Cover([]), []), 3)
        self.assertEqual(price_of(House(Wants([]), [1]), Cover([]), [[-HIGH]]), -HIGH)

    def test_checks_in_order(self):
        self.refused(BadCover(("near", 1, 2)), price_of, self.house, Cover([1, 2]), [])
        self.refused(BadCover(("end", 5)), price_of, self.house, Cover([5]), [])
        for ask in (cheapest, lambda house, prices: price_of(house, Cover([1]), prices)):
            self.refused(WrongLength(2, 3), ask, self.house, [[0], [0]])
            self.refused(WrongLength(4, 3), ask, self.house, self.prices + [[0, 0, 0]])
            self.refused(WrongLength(2, 3), ask, self.house, [[0, 0, 0], [0, 0], [0] * 4])
            self.refused(WrongLength(4, 3), ask, self.house, [[0, 0, 0], [0] * 4, [0]])
            self.refused(WrongLength(0, 3), ask, self.house, [[], [0] * 3, [0] * 3])


class Cheapest(Case):
    def test_a_cover_and_its_price(self):
        house = House(Wants([1, 5, 1, 5]), [1], rest=1)
        price, cover = cheapest(house, [[0, 3, 4]])
        self.assertIsInstance(cover, Cover)
        self.assertEqual([price, cover.ends], [4, (2, 4)])
        price, cover = cheapest(house, [[0, HIGH, -HIGH]])
        self.assertEqual([price, cover.ends], [-HIGH, (2, 4)])
        price, cover = cheapest(house, [[-HIGH, HIGH, HIGH]])
        self.assertEqual([price, cover.ends], [12 - HIGH, ()])

    def test_nothing_and_nobody(self):
        self.assertEqual(cheapest(House(Wants([]), []), [])[0], 0)
        price, cover = cheapest(House(Wants([]), [1, 1], rest=60), [[4], [-6]])
        self.assertEqual([price, cover.ends], [-2, ()])
        price, cover = cheapest(House(Wants([0, 2, 0, 1]), [], rest=1), [])
        self.assertEqual([price, cover.ends], [0, (2, 4)])

    def test_comings_behind_all_nights(self):
        price, cover = cheapest(House(Wants([1, 1]), [3, 3], rest=0), [[5, -9, -9], [-1, -9, -9]])
        self.assertEqual([price, cover.ends], [4, (1, 2)])

    def test_a_rest_above_the_nights(self):
        price, cover = cheapest(House(Wants([2, 2, 2]), [1], rest=60), [[0, 5]])
        self.assertEqual([price, cover.ends], [5, (3,)])

    def test_nights_stay_outside_if_they_can(self):
        house = House(Wants([0, 0, 0]), [1], rest=1)
        self.assertEqual(cheapest(house, [[0, 0, 0]])[1].ends, ())
        self.assertEqual(cheapest(house, [[1, 0, 1]])[1].ends, (1,))
        self.assertEqual(cheapest(house, [[1, 1, 0]])[1].ends, (1, 3))
        house = House(Wants([1, 1, 1]), [1], rest=1)
        self.assertEqual(cheapest(house, [[0, 2, 3]])[1].ends, ())
        self.assertEqual(cheapest(house, [[0, 1, 9]])[1].ends, (2,))

    def test_against_all_covers(self):
        numbers = Numbers(23)
        for house in some_houses(400, 24, nights=7, people=4, want=3):
            steps = most_stretches(house) + 1
            for high in (1, 4, HIGH):
                prices = [numbers.several(steps, -high, high) for _ in range(house.people)]
                price, cover = cheapest(house, prices)
                self.assertEqual((price, list(cover)), plain_cheapest(house, prices))
                self.assertEqual(price_of(house, cover, prices), price)

    def test_price_of_against_a_plain_sum(self):
        numbers = Numbers(25)
        for house in some_houses(80, 26, nights=6):
            steps = most_stretches(house) + 1
            prices = [numbers.several(steps, -9, 9) for _ in range(house.people)]
            for ends in all_covers(house):
                self.assertEqual(price_of(house, Cover(ends), prices),
                                 plain_price(house, ends, prices))

    def test_arguments_stay_as_they_are(self):
        house = House(Wants([1, 1]), [1, 2], rest=0)
        prices = [[0, 1, 2], [3, 4, 5]]
        cheapest(house, prices)
        price_of(house, Cover([1]), prices)
        self.assertEqual(prices, [[0, 1, 2], [3, 4, 5]])

    def test_a_large_house(self):
        for rest in (0, 2, 60):
            house = large_house(rest)
            steps = most_stretches(house) + 1
            prices = [[(person * count * 7) % 11 for count in range(steps)] for person in range(30)]
            price, cover = cheapest(house, prices)
            self.assertEqual(price_of(house, cover, prices), price)


class CoverOfASet(Case):
    house = House.all_there(Wants([1, 1, 1, 1]), 3, rest=2)

    def test_cover_of(self):
        self.assertIsInstance(cover_of(self.house, []), Cover)
        self.assertEqual(cover_of(self.house, [0, 2]).ends, (3,))
        self.assertEqual(cover_of(self.house, []).ends, (1, 4))
        self.assertEqual(cover_of(self.house, [0, 1, 2]).ends, ())
        self.assertEqual(cover_of(House(Wants([]), [1]), [0]).ends, ())

    def test_wrong_people(self):
        self.refused(NoPerson(3), cover_of, self.house, [0, 3, 0])
        self.refused(NamedTwice(0), cover_of, self.house, [0, 0, 3])

    def test_its_bound_is_the_most(self):
        for house in some_houses(200, 27, nights=6, people=4, want=3):
            steps = range(most_stretches(house) + 1)
            for people in subsets(range(house.people)):
                cover = cover_of(house, people)
                self.assertEqual(bound_of(house, cover, people), most_of(house, people))
                prices = [[count if person in people else 0 for count in steps]
                          for person in range(house.people)]
                self.assertEqual(list(cover), plain_cheapest(house, prices)[1])

    def test_a_large_house(self):
        for rest in (0, 2, 60):
            house = large_house(rest)
            for people in ([], list(range(15)), list(range(30))):
                self.assertEqual(bound_of(house, cover_of(house, people), people),
                                 most_of(house, people))
