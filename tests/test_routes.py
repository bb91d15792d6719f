from nightsoff.errors import BadNumber, NotPossible, WrongLength
from nightsoff.houses import House
from nightsoff.judge import judge
from nightsoff.routes import route
from nightsoff.tellings import LIMIT, Telling
from nightsoff.wants import Wants
from tests.search import Case, all_counts, some_houses, watched_houses


def plain_route(counts, told, wished):
    """Point 53 straight from its words; `counts` are all numbers that can be true."""
    moves = []
    while told != wished:
        people = range(len(told))
        giver = min(person for person in people if told[person] > wished[person])
        for taker in people:
            moved = list(told)
            moved[giver] -= 1
            moved[taker] += 1
            if told[taker] < wished[taker] and tuple(moved) in counts:
                break
        else:
            raise AssertionError("there is no taker")
        told = tuple(moved)
        moves.append((giver, taker, moved))
    return moves


class Leading(Case):
    house = House.all_there(Wants([1, 1, 1]), 3, rest=0)

    def test_moves(self):
        self.assertEqual(route(self.house, [3, 0, 0], [1, 1, 1]), [(0, 1, [2, 1, 0]), (0, 2, [1, 1, 1])])
        self.assertEqual(route(self.house, Telling([0, 1, 2]), Telling([1, 2, 0])),
                         [(2, 0, [1, 1, 1]), (2, 1, [1, 2, 0])])

    def test_nothing_to_move(self):
        self.assertEqual(route(self.house, [1, 1, 1], [1, 1, 1]), [])
        self.assertEqual(route(self.house, [1, 1, 1], Telling([1, 1, 1])), [])
        self.assertEqual(route(House(Wants([]), []), [], []), [])
        self.assertEqual(route(House(Wants([]), [1, 1], rest=60), [0, 0], [0, 0]), [])
        self.assertEqual(route(House(Wants([1, 0]), [3, 1], rest=60), [0, 1], [0, 1]), [])

    def test_a_taker_that_must_wait(self):
        # The lowest person with less than wished cannot take the first night.
        waits = 0
        for house in watched_houses(60, 211, nights=5, people=4):
            counts = all_counts(house)
            for told in counts:
                for wished in counts:
                    moves = route(house, list(told), list(wished))
                    if moves and moves[0][1] != [a < b for a, b in zip(told, wished)].index(True):
                        waits += 1
        self.assertGreater(waits, 0)

    def test_against_all_tellings(self):
        pairs = 0
        for house in some_houses(100, 212) + watched_houses(60, 213, people=4):
            counts = all_counts(house)
            for told in counts:
                for wished in counts:
                    moves = route(house, list(told), Telling(wished))
                    self.assertEqual(moves, plain_route(counts, told, wished))
                    self.assertEqual(2 * len(moves), Telling(told) ^ Telling(wished))
                    self.assertTrue(all(tuple(numbers) in counts for _, _, numbers in moves))
                    pairs += bool(moves)
        self.assertGreater(pairs, 200)

    def test_copies(self):
        told = [3, 0, 0]
        wished = [1, 1, 1]
        moves = route(self.house, told, wished)
        moves[0][2].append(9)
        self.assertEqual([told, wished, moves[1][2]], [[3, 0, 0], [1, 1, 1], [1, 1, 1]])
        moves[1][2][0] = 9
        self.assertEqual(wished, [1, 1, 1])
        self.assertEqual(route(self.house, told, wished), [(0, 1, [2, 1, 0]), (0, 2, [1, 1, 1])])


class Refused(Case):
    house = House(Wants([2, 1, 2]), [1, 1, 2], rest=1)

    def test_wrong_lists(self):
        self.refused(WrongLength(2, 3), route, self.house, [-1, 0], [0])
        self.refused(BadNumber(1, -1), route, self.house, [2, -1, LIMIT + 1], [0])
        self.refused(BadNumber(2, LIMIT + 1), route, self.house, Telling([2, 2, 1]), [0, 0, LIMIT + 1])
        self.refused(WrongLength(4, 3), route, self.house, [2, 2, 1], Telling([1] * 4))

    def test_told_before_wished(self):
        self.refused(NotPossible("sum", None), route, self.house, [1, 1, 1], [-1])
        self.refused(NotPossible("sum", None), route, self.house, [1, 1, 1], [2, 1, 2])
        self.refused(BadNumber(0, -1), route, self.house, [2, 2, 1], [-1, 0, 0])
        self.refused(NotPossible("sum", None), route, self.house, [2, 2, 1], [1, 1, 1])

    def test_with_the_cover_of_the_verdict(self):
        for told, wished in (([2, 1, 2], [1, 1, 1]), ([2, 2, 1], [2, 1, 2])):
            with self.assertRaises(NotPossible) as caught:
                route(self.house, told, wished)
            self.assertEqual(caught.exception.reason, "stretches")
            self.assertEqual(caught.exception.cover.ends, judge(self.house, [2, 1, 2]).cover.ends)
