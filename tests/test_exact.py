from fractions import Fraction

from nightsoff.errors import ZeroBottom
from nightsoff.exact import Exact
from tests.search import Case, Numbers

SMALL = [(top, bottom) for top in range(-5, 6) for bottom in (-4, -3, -1, 1, 2, 3, 6)]


def plain(fraction):
    return Fraction(fraction.top, fraction.bottom)


class Making(Case):
    def test_lowest_terms(self):
        for top, bottom in SMALL:
            found = Exact(top, bottom)
            wanted = Fraction(top, bottom)
            self.assertEqual([found.top, found.bottom], [wanted.numerator, wanted.denominator])

    def test_edges(self):
        self.assertEqual([Exact(7).top, Exact(7).bottom], [7, 1])
        self.assertEqual([Exact(0, -9).top, Exact(0, -9).bottom], [0, 1])
        self.assertEqual([Exact(6, -4).top, Exact(6, -4).bottom], [-3, 2])

    def test_zero_bottom(self):
        self.refused(ZeroBottom(), Exact, 1, 0)
        self.refused(ZeroBottom(), Exact, 0, 0)


class Counting(Case):
    def test_against_fractions(self):
        for one in SMALL:
            for two in SMALL:
                a, b = Exact(*one), Exact(*two)
                x, y = Fraction(*one), Fraction(*two)
                for found, wanted in ((a + b, x + y), (a - b, x - y), (a * b, x * y), (-a, -x), (abs(a), abs(x)),
                                      (a * two[0], x * two[0]), (two[0] * a, two[0] * x)):
                    self.assertIsInstance(found, Exact)
                    self.assertEqual([found.top, found.bottom], [wanted.numerator, wanted.denominator])
                self.assertIs(a.below(b), x < y)
                self.assertIs(a.same(b), x == y)
                if y == 0:
                    self.refused(ZeroBottom(), lambda: a // b)
                else:
                    self.assertEqual(a // b, x // y)

    def test_whole_quotients(self):
        self.assertEqual([Exact(7, 2) // Exact(1), Exact(-7, 2) // Exact(1), Exact(7, 2) // Exact(-1)], [3, -4, -4])
        self.assertEqual([Exact(0) // Exact(3), Exact(-1, 3) // Exact(-1, 6), Exact(1) // Exact(2)], [0, 2, 0])
        self.refused(ZeroBottom(), lambda: Exact(0) // Exact(0, 5))

    def test_powers(self):
        for top, bottom in SMALL:
            for times in (0, 1, 2, 5, 64):
                found = Exact(top, bottom) ** times
                self.assertIsInstance(found, Exact)
                self.assertEqual(plain(found), Fraction(top, bottom) ** times)
        self.assertEqual([(Exact(0) ** 0).top, (Exact(0) ** 64).top], [1, 0])
        self.assertEqual((Exact(-2, 3) ** 3).text(), "-8/27")

    def test_sums(self):
        numbers = Numbers(231)
        for count in range(6):
            pairs = [(numbers.between(-9, 9), numbers.between(1, 9)) for _ in range(count)]
            fractions = [Exact(*pair) for pair in pairs]
            found = Exact.sum_of(fractions)
            self.assertIsInstance(found, Exact)
            self.assertEqual(plain(found), sum(Fraction(*pair) for pair in pairs))
            self.assertEqual(len(fractions), count)
        self.assertEqual(Exact.sum_of([]).text(), "0")
        self.assertIsInstance(vars(Exact)["sum_of"], staticmethod)

    def test_many_digits(self):
        top = 10 ** 899 + 7
        bottom = 10 ** 899 + 9
        found = Exact(top * 3, bottom * 3)
        self.assertEqual([found.top, found.bottom], [top, bottom])
        self.assertEqual(found.text(), f"{top}/{bottom}")
        self.assertEqual(len(Exact(-top).text()), 901)
        self.assertEqual(plain(Exact(2 ** 14 - 1, 3 ** 9) ** 64), Fraction(2 ** 14 - 1, 3 ** 9) ** 64)
        self.assertTrue(Exact(top, bottom).below(Exact(top + 1, bottom)))

    def test_nothing_is_changed(self):
        one, two = Exact(3, 4), Exact(-1, 6)
        for _ in (one + two, one - two, one * two, -two, abs(two), one // two, one ** 3, Exact.sum_of([one, two])):
            self.assertEqual([one.text(), two.text()], ["3/4", "-1/6"])


class Telling(Case):
    def test_text(self):
        self.assertEqual([Exact(6, 4).text(), Exact(-6, 4).text(), Exact(6, -3).text(), Exact(0, 3).text()],
                         ["3/2", "-3/2", "-2", "0"])

    def test_comparing(self):
        self.assertIs(Exact(1, 2).same(Exact(2, 4)), True)
        self.assertIs(Exact(1, 2).same(Exact(1, 3)), False)
        self.assertIs(Exact(1, 2).same(Exact(-1, 2)), False)
        self.assertIs(Exact(-1, 2).below(Exact(1, 3)), True)
        self.assertIs(Exact(1, 2).below(Exact(2, 4)), False)
        self.assertIs(Exact(1, 2).below(Exact(1, 3)), False)
