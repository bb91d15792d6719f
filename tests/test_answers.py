from nightsoff.answers import Answer, Extreme, answer, form_least, form_most
from nightsoff.bounds import Bounds
from nightsoff.covers import Cover
from nightsoff.errors import NoWorld, WrongLength
from nightsoff.forms import Form
from nightsoff.houses import House
from nightsoff.tellings import LIMIT
from nightsoff.wants import Wants
from nightsoff.worlds import group_most, raised
from tests.search import Case, Numbers, all_worlds, some_bounds, some_houses


def some_forms(people, count, seed):
    numbers = Numbers(seed)
    forms = [Form([0] * people), Form([LIMIT] * people), Form([-LIMIT] * people)]
    return forms + [Form(numbers.several(people, -2, 3)) for _ in range(count)]


def shown(extreme):
    return [extreme.number, extreme.world, [cover.ends for cover in extreme.covers]]


class Extremes(Case):
    house = House.all_there(Wants([1, 1, 1, 1]), 3, rest=2)

    def test_most_and_least(self):
        form = Form([2, 1, 0])
        most = form_most(self.house, Bounds.up_to(3, 4), form)
        self.assertIsInstance(most, Extreme)
        self.assertIsInstance(most.covers, tuple)
        self.assertIsInstance(most.covers[0], Cover)
        self.assertEqual(shown(most), [5, [2, 1, 1], [(3,), (3,)]])
        least = form_least(self.house, Bounds.up_to(3, 4), form)
        self.assertIsInstance(least, Extreme)
        self.assertEqual([least.number, least.world], [3, [1, 1, 2]])

    def test_nobody_and_one(self):
        nobody = House(Wants([0, 0]), [])
        self.assertEqual(shown(form_most(nobody, Bounds([], []), Form([]))), [0, [], []])
        self.assertEqual(shown(form_least(nobody, Bounds([], []), Form([]))), [0, [], []])
        self.assertEqual(shown(form_most(House(Wants([]), []), Bounds([], []), Form([]))), [0, [], []])
        alone = House(Wants([1, 0, 1]), [1])
        self.assertEqual(shown(form_most(alone, Bounds.up_to(1, LIMIT), Form([-LIMIT]))), [-2 * LIMIT, [2], []])
        self.assertEqual(shown(form_least(alone, Bounds.up_to(1, 2), Form([7]))), [14, [2], []])

    def test_great_weights(self):
        form = Form([LIMIT, -LIMIT, 0])
        self.assertEqual(form_most(self.house, Bounds.up_to(3, LIMIT), form).number, LIMIT)
        self.assertEqual(form_least(self.house, Bounds.up_to(3, LIMIT), form).number, -LIMIT)

    def test_equal_weights_take_the_lower_person_first(self):
        self.assertEqual(form_most(self.house, Bounds.up_to(3, 4), Form([1, 1, 1])).world, [2, 1, 1])
        self.assertEqual(form_most(self.house, Bounds.up_to(3, 4), Form([0, 1, 1])).world, [1, 2, 1])

    def test_against_all_worlds(self):
        for house in some_houses(50, 81):
            for bounds in some_bounds(house, 6, 82):
                worlds = all_worlds(house, bounds)
                if worlds:
                    for form in some_forms(house.people, 4, 83):
                        self.check_form(house, bounds, worlds, form)

    def check_form(self, house, bounds, worlds, form):
        values = [sum(weight * number for weight, number in zip(form.weights, world)) for world in worlds]
        most = form_most(house, bounds, form)
        self.assertEqual(most.number, max(values))
        order = sorted(range(house.people), key=lambda person: -form.weights[person])
        self.assertEqual(most.world, raised(house, bounds, order))
        groups = [group_most(house, bounds, order[:count]) for count in range(1, house.people)]
        self.assertEqual([cover.ends for cover in most.covers], [cover.ends for _, _, cover in groups])
        # The sum over the groups of point 33.
        weights = [form.weights[person] for person in order]
        steps = [one - two for one, two in zip(weights, weights[1:])]
        total = sum(step * number for step, (number, _, _) in zip(steps, groups))
        self.assertEqual(most.number, total + (weights[-1] * sum(house.wants) if weights else 0))
        least = form_least(house, bounds, form)
        self.assertEqual(least.number, min(values))
        opposite = form_most(house, bounds, -form)
        self.assertEqual(shown(least), [-opposite.number, opposite.world, shown(opposite)[2]])


class Answers(Case):
    house = House.all_there(Wants([1, 1, 1, 1]), 3, rest=2)
    bounds = Bounds.up_to(3, 4)

    def word(self, form, number):
        return answer(self.house, self.bounds, form, number).word

    def test_words(self):
        form = Form([2, 1, 0])
        self.assertEqual([self.word(form, number) for number in (-5, 3, 4, 5, 6, LIMIT)],
                         ["yes", "yes", "open", "open", "no", "no"])

    def test_one_value_only(self):
        self.assertEqual([self.word(Form([1, 1, 1]), number) for number in (3, 4, 5)], ["yes", "yes", "no"])
        self.assertEqual(answer(House(Wants([]), []), Bounds([], []), Form([]), 0).word, "yes")
        self.assertEqual(answer(House(Wants([]), []), Bounds([], []), Form([]), 1).word, "no")

    def test_extremes(self):
        form = Form([2, 1, 0])
        for number in (3, 4, 6):
            reply = answer(self.house, self.bounds, form, number)
            self.assertIsInstance(reply, Answer)
            self.assertEqual(shown(reply.least), shown(form_least(self.house, self.bounds, form)))
            self.assertEqual(shown(reply.most), shown(form_most(self.house, self.bounds, form)))

    def test_against_all_worlds(self):
        for house in some_houses(30, 84):
            for bounds in some_bounds(house, 6, 85):
                worlds = all_worlds(house, bounds)
                for form in some_forms(house.people, 3, 86) if worlds else []:
                    for number in range(-3, 7):
                        says = {form(world) >= number for world in worlds}
                        reply = answer(house, bounds, form, number)
                        self.assertEqual(reply.word, "open" if len(says) == 2 else "yes" if True in says else "no")
                        if reply.word == "open":
                            self.assertGreaterEqual(form(reply.most.world), number)
                            self.assertLess(form(reply.least.world), number)

    def test_worlds_are_new(self):
        reply = answer(self.house, self.bounds, Form([2, 1, 0]), 5)
        reply.least.world[0] = 9
        reply.most.world.append(9)
        again = answer(self.house, self.bounds, Form([2, 1, 0]), 5)
        self.assertEqual([again.least.world, again.most.world], [[1, 1, 2], [2, 1, 1]])

    def test_wrong_arguments(self):
        for ask in (form_most, form_least, lambda *three: answer(*three, 1)):
            self.refused(WrongLength(2, 3), ask, self.house, Bounds([1, 0], [0, 0]), Form([1]))
            self.refused(WrongLength(4, 3), ask, self.house, Bounds.up_to(4, 1), Form([1] * 3))
            self.refused(WrongLength(1, 3), ask, self.house, Bounds([1, 0, 0], [0, 0, 0]), Form([1]))
            self.refused(NoWorld("crossed", 0, None), ask, self.house, Bounds([1, 0, 0], [0, 0, 0]), Form([1] * 3))

    def test_no_world(self):
        for ask in (form_most, form_least, lambda *three: answer(*three, 1)):
            for bounds, reason in ((Bounds([3, 0, 0], [3, 3, 3]), "low"), (Bounds.up_to(3, 1), "high")):
                with self.assertRaises(NoWorld) as caught:
                    ask(self.house, bounds, Form([1, 0, 0]))
                self.assertEqual([caught.exception.reason, caught.exception.person], [reason, None])
                self.assertEqual(list(caught.exception.cover), [3] if reason == "low" else [1, 4])
