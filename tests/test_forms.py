from nightsoff.errors import BadNumber, NoPerson, TooLong, WrongLength
from nightsoff.forms import Form
from nightsoff.tellings import LIMIT, Telling
from tests.search import Case


class Making(Case):
    def test_weights(self):
        self.assertEqual(Form([3, -LIMIT, LIMIT]).weights, (3, -LIMIT, LIMIT))
        self.assertEqual(Form((0,)).weights, (0,))
        self.assertEqual([Form([]).weights, len(Form([])), len(Form([0] * 30))], [(), 0, 30])

    def test_wrong_weights(self):
        self.refused(TooLong(31), Form, [LIMIT + 1] * 31)
        self.refused(BadNumber(1, LIMIT + 1), Form, [0, LIMIT + 1, -LIMIT - 1])
        self.refused(BadNumber(0, -LIMIT - 1), Form, (-LIMIT - 1, LIMIT + 1))

    def test_copies(self):
        weights = [1, 2]
        form = Form(weights)
        weights[0] = 9
        self.assertEqual(form.weights, (1, 2))

    def test_of(self):
        self.assertEqual(Form.of(4, 1, 3, 1).weights, (0, 2, 0, 1))
        self.assertEqual(Form.of(2).weights, (0, 0))
        self.assertEqual(Form.of(0).weights, ())
        self.assertEqual(Form.of(30, 29).weights, (0,) * 29 + (1,))
        self.refused(NoPerson(2), Form.of, 2, 0, 2, -1)
        self.refused(NoPerson(-1), Form.of, 2, -1, 5)
        self.refused(NoPerson(0), Form.of, 0, 0)


class Using(Case):
    def test_sums_and_differences(self):
        one = Form([1, -2, 3])
        two = Form([5, 5, -3])
        self.assertEqual((one + two).weights, (6, 3, 0))
        self.assertEqual((one - two).weights, (-4, -7, 6))
        self.assertEqual([one.weights, two.weights], [(1, -2, 3), (5, 5, -3)])
        self.assertEqual((Form([]) + Form([])).weights, ())

    def test_factors(self):
        form = Form([1, -2, 0])
        self.assertEqual((form * 3).weights, (3, -6, 0))
        self.assertEqual((-3 * form).weights, (-3, 6, 0))
        self.assertEqual((0 * form).weights, (0, 0, 0))
        self.assertEqual((-form).weights, (-1, 2, 0))

    def test_unlike_lengths(self):
        self.refused(WrongLength(2, 1), lambda: Form([1]) + Form([1, 1]))
        self.refused(WrongLength(1, 2), lambda: Form([1, 1]) - Form([1]))
        self.refused(WrongLength(0, 2), lambda: Form([LIMIT, 1]) + Form([]))

    def test_results_are_checked(self):
        top = Form([0, LIMIT, -LIMIT])
        self.refused(BadNumber(1, LIMIT + 1), lambda: top + Form([0, 1, -1]))
        self.refused(BadNumber(2, -LIMIT - 1), lambda: top - Form([0, 1, 1]))
        self.refused(BadNumber(1, 2 * LIMIT), lambda: top * 2)
        self.refused(BadNumber(1, -2 * LIMIT), lambda: -2 * top)
        self.assertEqual((-top).weights, (0, -LIMIT, LIMIT))
        self.assertEqual((LIMIT * Form([1, -1])).weights, (LIMIT, -LIMIT))

    def test_value(self):
        form = Form([2, 0, -1])
        self.assertEqual(form([3, 9, 4]), 2)
        self.assertEqual(form(Telling([0, 1, 5])), -5)
        self.assertEqual(form((1, 1, 1)), 1)
        self.assertEqual(form([-3, 0, LIMIT * LIMIT]), -6 - LIMIT * LIMIT)
        self.assertEqual(Form([])([]), 0)

    def test_value_of_a_wrong_list(self):
        self.refused(WrongLength(2, 3), Form([1, 1, 1]), [-1, -1])
        self.refused(WrongLength(1, 0), Form([]), Telling([1]))

    def test_order(self):
        self.assertEqual(Form([1, 5, -2, 5, 1, LIMIT]).order(), [5, 1, 3, 0, 4, 2])
        self.assertEqual(Form([0, 0, 0]).order(), [0, 1, 2])
        self.assertEqual(Form([]).order(), [])
        self.assertEqual(Form([-LIMIT, LIMIT]).order(), [1, 0])

    def test_orders_are_new(self):
        form = Form([1, 2])
        form.order().append(7)
        self.assertEqual(form.order(), [1, 0])
