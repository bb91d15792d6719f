import itertools

from nightsoff.answers import Answer, answer
from nightsoff.bounds import Bounds
from nightsoff.books import Book
from nightsoff.errors import (
    BadName, BadNumber, BadRest, KnownName, NoRecord, NothingToUndo, NoWorld, TooLong, UnknownName)
from nightsoff.forms import Form
from nightsoff.history import History
from nightsoff.houses import House
from nightsoff.tellings import LIMIT
from nightsoff.worlds import group_least, group_most
from tests.search import Case, all_worlds
from tests.test_history import book_state, some_book_deeds

FACTS = [
    ("nights", (1, 1, 1, 1)), ("rest", 2), ("person", "cid", 1), ("person", "ann", 1), ("person", "bob", 2),
    ("move", "bob", 1), ("told", "ann", 2, 2), ("told", "cid", 0, 3),
]


def small_book():
    book = Book()
    book.all_of(FACTS)
    return book


def living_deeds(book):
    return [deed for _, living, deed in book.records() if living]


def told_at_once(deeds):
    """The names, the house and the bounds of a book, straight from point 65, by the living deeds."""
    def last(words, name=None):
        found = [deed for deed in deeds if deed[0] in words and (name is None or deed[1] == name)]
        return found[-1] if found else None

    names = sorted({deed[1] for deed in deeds if deed[0] == "person"})
    wants = (last(["nights"]) or ("nights", ()))[1]
    comings = [min(last(["person", "move"], name)[2], len(wants) + 1) for name in names]
    told = [last(["told", "forget"], name) for name in names]
    ranges = [deed[2:] if deed and deed[0] == "told" else (0, len(wants)) for deed in told]
    rest = (last(["rest"]) or ("rest", 1))[1]
    return names, wants, tuple(comings), rest, tuple(low for low, _ in ranges), tuple(high for _, high in ranges)


class Telling(Case):
    def test_a_book(self):
        book = Book()
        self.assertIsInstance(book, History)
        self.assertIsNone(book.set_nights(1, 1, 1, 1))
        self.assertIsNone(book.all_of([("rest", 2), ("person", "cid", 1), ("person", "ann", 1), ("person", "bob", 1)]))
        self.assertIsNone(book.tell(ann=2))
        self.assertEqual([book.names(), book.spread("bob"), book.done], [["ann", "bob", "cid"], (1, 1), 6])
        found = book.ask(2, "bob", "cid")
        self.assertIsInstance(found, Answer)
        self.assertEqual([found.word, found.least.number, found.most.number], ["yes", 2, 2])
        self.assertEqual(book.state_word(), "world")

    def test_without_records(self):
        book = Book()
        house, bounds = book.told_house(), book.told_bounds()
        self.assertIsInstance(house, House)
        self.assertIsInstance(bounds, Bounds)
        self.assertEqual([house.wants.numbers, house.comings, house.rest, bounds.lows, bounds.highs],
                         [(), (), 1, (), ()])
        self.assertEqual([book.names(), book.records(), book.state_word(), book.done], [[], [], "world", 0])
        self.assertEqual([book.ask(0).word, book.ask(1).word], ["yes", "no"])
        self.refused(UnknownName("ann"), book.spread, "ann")
        self.refused(NothingToUndo(), book.undo)

    def test_names_without_nights(self):
        book = Book()
        book.add_person("ann")
        book.add_person("bob", 61)
        self.assertEqual([book.told_house().comings, book.told_bounds().highs, book.spread("bob")],
                         [(1, 1), (0, 0), (0, 0)])
        book.set_nights(1, 1)
        self.assertEqual([book.told_house().comings, book.told_bounds().highs], [(1, 3), (2, 2)])
        self.assertEqual(book.deeds(), [("person", "ann", 1), ("person", "bob", 61), ("nights", (1, 1))])

    def test_told_by_keywords(self):
        book = Book()
        book.set_nights(1, 1, 1, 1)
        for name in ("b", "a", "self"):
            book.add_person(name)
        book.tell(b=3, a=1)
        self.assertEqual(book.deeds()[-2:], [("told", "b", 3, 3), ("told", "a", 1, 1)])
        book.tell()
        self.assertEqual(book.done, 6)
        self.refused(UnknownName("c"), book.tell, a=2, c=1)
        self.refused(BadNumber(2, -1), book.tell, a=-1)
        self.assertEqual([book.done, book.told_bounds().lows], [6, (1, 3, 0)])
        book.do(("told", "self", 0, 1))
        self.assertEqual(book.told_bounds().highs, (1, 3, 1))

    def test_the_greatest_number_counts(self):
        book = Book()
        book.all_of([("nights", (1,)), ("nights", (2, 2)), ("rest", 3), ("rest", 0), ("person", "ann", 2),
                     ("told", "ann", 1, 1), ("move", "ann", 1), ("told", "ann", 0, 2), ("forget", "ann")])
        self.assertEqual(book_state(book)[1:], [["ann"], (1,), (2, 2), 0, (0,), (2,)])
        book.do(("strike", 9))
        self.assertEqual(book.told_bounds().highs, (2,))
        book.do(("strike", 8))
        self.assertEqual(book.told_bounds().highs, (1,))
        book.all_of([("strike", 7), ("strike", 4), ("strike", 2)])
        self.assertEqual(book_state(book)[1:], [["ann"], (2,), (1,), 3, (1,), (1,)])
        book.do(("restore", 2))
        self.assertEqual(book.told_house().wants.numbers, (2, 2))

    def test_against_point_65(self):
        for seed in range(521, 541):
            book = Book()
            for deed in some_book_deeds(40, seed):
                try:
                    book.do(deed)
                except ValueError:
                    continue
                self.assertEqual(tuple(book_state(book)[1:]), self.in_that_order(told_at_once(living_deeds(book))))

    def in_that_order(self, told):
        names, wants, comings, rest, lows, highs = told
        return names, comings, wants, rest, lows, highs


class Records(Case):
    def test_numbers(self):
        book = small_book()
        self.assertEqual(book.records(), [(number, True, deed) for number, deed in enumerate(FACTS, start=1)])
        book.do(("strike", 2))
        self.assertEqual(book.records()[1], (2, False, ("rest", 2)))
        self.assertEqual([len(book.records()), book.done], [8, 9])
        book.do(("rest", 0))
        self.assertEqual(book.records()[-1], (9, True, ("rest", 0)))

    def test_undone_and_done_again(self):
        book = Book()
        book.all_of([("rest", 2), ("rest", 3)])
        book.undo()
        self.assertEqual(book.records(), [(1, True, ("rest", 2))])
        book.redo()
        self.assertEqual(book.records(), [(1, True, ("rest", 2)), (2, True, ("rest", 3))])
        book.undo()
        book.do(("rest", 4))
        self.assertEqual(book.records(), [(1, True, ("rest", 2)), (2, True, ("rest", 4))])
        book.do(("strike", 1))
        self.assertEqual([book.undo(), book.records()[0]], [("strike", 1), (1, True, ("rest", 2))])
        self.assertEqual([book.redo(), book.records()[0]], [("strike", 1), (1, False, ("rest", 2))])

    def test_strike_and_restore(self):
        book = small_book()
        for number in (0, 9, -1, 10 ** 31):
            self.refused(NoRecord(number), book.do, ("strike", number))
            self.refused(NoRecord(number), book.do, ("restore", number))
        self.refused(NoRecord(3), book.do, ("restore", 3))
        book.do(("strike", 3))
        self.refused(NoRecord(3), book.do, ("strike", 3))
        book.do(("restore", 3))
        self.refused(NoRecord(3), book.do, ("restore", 3))
        self.assertEqual(book.records(), small_book().records())

    def test_a_person_record_that_is_struck(self):
        book = small_book()
        book.do(("strike", 4))
        self.assertEqual([book.names(), book.told_bounds().lows], [["bob", "cid"], (0, 0)])
        self.refused(UnknownName("ann"), book.do, ("told", "ann", 1, 1))
        # The number told before counts for the name as soon as it is known again.
        book.add_person("ann", 3)
        self.assertEqual([book.names(), book.told_bounds().lows, book.told_house().comings],
                         [["ann", "bob", "cid"], (2, 0, 0), (3, 1, 1)])
        book.do(("restore", 4))
        self.assertEqual(book.told_house().comings, (3, 1, 1))
        book.do(("strike", 9))
        self.assertEqual(book.told_house().comings, (1, 1, 1))

    def test_a_name_that_is_known_by_a_later_record(self):
        book = Book()
        book.all_of([("nights", (1, 1, 1)), ("person", "ann", 1), ("move", "ann", 3), ("told", "ann", 1, 1),
                     ("strike", 2)])
        self.assertEqual([book.names(), book.told_house().comings], [[], ()])
        book.add_person("ann", 2)
        self.assertEqual([book.told_house().comings, book.told_bounds().lows], [(2,), (1,)])
        self.refused(KnownName("ann"), book.add_person, "ann", 99)

    def test_comings_above_the_nights(self):
        book = Book()
        book.all_of([("person", "ann", 61), ("person", "bob", 3), ("nights", (1, 0))])
        self.assertEqual(book.told_house().comings, (3, 3))
        book.set_nights(1, 1, 1, 1)
        self.assertEqual(book.told_house().comings, (5, 3))

    def test_struck_as_if_never_told(self):
        wanted = book_state(small_book())[1:]
        for seed in range(541, 561):
            book = small_book()
            for deed in some_book_deeds(40, seed):
                if deed[0] not in ("strike", "restore"):
                    try:
                        book.do(deed)
                    except ValueError:
                        continue
            self.assertGreater(len(book.records()), 15)
            self.assertNotEqual(book_state(book)[1:], wanted)
            for number in range(9, len(book.records()) + 1):
                book.do(("strike", number))
            self.assertEqual(book_state(book)[1:], wanted)
            self.assertEqual([book.state_word(), book.spread("bob")], ["world", (1, 1)])

    def test_facts_in_any_order(self):
        facts = [("nights", (1, 1, 1, 1)), ("rest", 2), ("person", "cid", 1), ("person", "ann", 1), ("person", "bob", 2)]
        told = [("told", "ann", 2, 2), ("told", "cid", 0, 3)]
        wanted = None
        for order in itertools.permutations(facts):
            for last in (told, told[::-1]):
                book = Book()
                book.all_of([*order, *last])
                found = [book_state(book)[1:], book.state_word(), book.spread("bob"), book.spread("cid"),
                         book.ask(3, "ann", "bob").word]
                wanted = wanted or found
                self.assertEqual(found, wanted)

    def test_two_records_of_one_subject(self):
        one, two = Book(), Book()
        one.all_of([("person", "ann", 1), ("nights", (1,)), ("nights", (2,)), ("told", "ann", 1, 1)])
        two.all_of([("nights", (1,)), ("person", "ann", 1), ("told", "ann", 1, 1), ("nights", (2,))])
        self.assertEqual(book_state(one)[1:], book_state(two)[1:])
        self.assertEqual(one.told_house().wants.numbers, (2,))


class Asking(Case):
    def test_spreads_and_answers(self):
        asked = 0
        for seed in range(561, 581):
            book = Book()
            book.set_nights(1, 1, 2)
            for deed in some_book_deeds(25, seed):
                try:
                    book.do(deed)
                except ValueError:
                    continue
            house, bounds = book.told_house(), book.told_bounds()
            worlds = all_worlds(house, bounds)
            names = book.names()
            self.assertEqual(book.state_word() == "world", bool(worlds))
            for person, name in enumerate(names if worlds else []):
                numbers = [world[person] for world in worlds]
                self.assertEqual(book.spread(name), (min(numbers), max(numbers)))
                self.assertEqual(book.spread(name), (group_least(house, bounds, [person])[0],
                                                     group_most(house, bounds, [person])[0]))
                for number in range(5):
                    form = Form.of(len(names), person, 0, person)
                    found = book.ask(number, name, names[0], name)
                    wanted = answer(house, bounds, form, number)
                    self.assertEqual([found.word, found.least.number, found.most.world],
                                     [wanted.word, wanted.least.number, wanted.most.world])
                    asked += 1
        self.assertGreater(asked, 20)

    def test_no_world(self):
        book = small_book()
        book.do(("told", "bob", 3, 1))
        self.assertEqual(book.state_word(), "crossed")
        self.refused(NoWorld("crossed", 1, None), book.spread, "ann")
        self.refused(NoWorld("crossed", 1, None), book.ask, 1, "ann")
        book.do(("told", "bob", 3, LIMIT))
        self.assertEqual(book.state_word(), "low")
        book.all_of([("told", "bob", 0, 0), ("told", "ann", 0, 0)])
        self.assertEqual(book.state_word(), "high")
        with self.assertRaises(NoWorld) as caught:
            book.ask(0)
        self.assertEqual([caught.exception.reason, caught.exception.person], ["high", None])

    def test_unknown_names(self):
        book = small_book()
        book.do(("told", "bob", 3, 1))
        for name in ("dan", "", "Ann", "ann "):
            self.refused(UnknownName(name), book.spread, name)
            self.refused(UnknownName(name), book.ask, 1, "ann", name, "zoe")

    def test_questions_change_nothing(self):
        book = small_book()
        before = book_state(book)
        book.undo()
        book.spread("bob"), book.ask(1, "bob"), book.state_word()
        self.assertEqual([book.done, book.undone], [7, 1])
        book.redo()
        self.assertEqual(book_state(book), before)


class Refused(Case):
    def test_facts(self):
        book = small_book()
        before = [book_state(book), book.done]
        for deed, error in (
                (("nights", (1,) * 61), TooLong(61)), (("nights", (1, 31, -1)), BadNumber(1, 31)),
                (("rest", -1), BadRest(-1)), (("rest", 61), BadRest(61)),
                (("person", "Dan", 0), BadName("Dan")), (("person", "ann", 0), KnownName("ann")),
                (("person", "dan", 0), BadNumber(2, 0)), (("person", "dan", 62), BadNumber(2, 62)),
                (("move", "dan", 0), UnknownName("dan")), (("move", "ann", 0), BadNumber(2, 0)),
                (("move", "ann", 62), BadNumber(2, 62)),
                (("told", "dan", -1, -1), UnknownName("dan")), (("told", "ann", -1, -1), BadNumber(2, -1)),
                (("told", "ann", LIMIT + 1, -1), BadNumber(2, LIMIT + 1)), (("told", "ann", 0, -1), BadNumber(3, -1)),
                (("told", "ann", 0, LIMIT + 1), BadNumber(3, LIMIT + 1)), (("forget", "dan"), UnknownName("dan")),
                (("forget", "A"), UnknownName("A")), (("told", "", 0, 0), UnknownName(""))):
            self.refused(error, book.do, deed)
            self.assertEqual([book_state(book), book.done], before)
        self.refused(TooLong(61), book.set_nights, *[1] * 61)
        self.refused(BadNumber(0, 31), book.set_nights, 31)
        self.refused(BadNumber(2, 0), book.add_person, "dan", 0)
        self.refused(BadNumber(2, 62), book.add_person, "dan", coming=62)

    def test_names(self):
        book = Book()
        for name in ("", "1", "1a", "a b", " a", "a ", "A", "aB", "a-b", "a_b", "a" * 13, "abcdefghijkl1", "a.", "a\n"):
            self.refused(BadName(name), book.add_person, name, 0)
        for name in ("a", "z9", "a" * 12, "abcdefghijk1", "abc", "xyz0123456"):
            book.add_person(name)
        self.assertEqual(book.names(), ["a", "a" * 12, "abc", "abcdefghijk1", "xyz0123456", "z9"])

    def test_greatest_facts(self):
        book = Book()
        book.set_nights(*[30] * 60)
        book.all_of([("rest", 60), ("rest", 0), ("person", "ann", 61), ("move", "ann", 1), ("told", "ann", 0, LIMIT),
                     ("told", "ann", LIMIT, 0)])
        self.assertEqual([book.done, book.state_word()], [7, "crossed"])


class Copies(Case):
    def test_lists(self):
        book = small_book()
        before = book_state(book)
        for found in (book.names(), book.records(), book.deeds()):
            found.clear()
        self.assertEqual([book_state(book), book.deeds()], [before, FACTS])
        deeds = [("rest", 7)]
        book.all_of(deeds)
        self.assertEqual(deeds, [("rest", 7)])
