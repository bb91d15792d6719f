from nightsoff.books import Book
from nightsoff.desks import Desk
from nightsoff.errors import BadRest, NothingToRedo, NothingToUndo, NotRight, UnknownName, WrongCount
from nightsoff.history import History
from nightsoff.houses import House
from nightsoff.wants import Wants
from tests.search import Case, Numbers


def book_state(book):
    return [book.records(), book.names(), book.told_house().comings, book.told_house().wants.numbers,
            book.told_house().rest, book.told_bounds().lows, book.told_bounds().highs]


def desk_state(desk):
    house, left = desk.ahead()
    return [desk.now, desk.kept, desk.left, desk.free_tonight(), house.wants.numbers, house.comings, left,
            desk.house_now().wants.numbers, desk.house_now().comings, desk.told_now(), desk.rows_so_far().rows,
            desk.outlook().rows, desk.still_kept()]


def steps(history):
    return [history.done, history.undone, history.deeds()]


def some_book_deeds(count, seed):
    """Deeds for a book, many of which are refused."""
    numbers = Numbers(seed)
    deeds = []
    for _ in range(count):
        name = ["ann", "bob", "cid", "d0"][numbers.below(4)]
        low = numbers.below(4)
        deeds.append([
            ("nights", tuple(numbers.several(numbers.below(4), 0, 2))), ("rest", numbers.below(3)),
            ("person", name, numbers.between(0, 4)), ("person", name, 1), ("move", name, numbers.between(1, 5)),
            ("told", name, low, low + numbers.between(-1, 2)), ("forget", name),
            ("strike", numbers.between(0, 6)), ("restore", numbers.between(0, 6)),
        ][numbers.below(9)])
    return deeds


def some_desk_deeds(count, seed):
    """Deeds for a desk of four nights and three people, many of which are refused."""
    numbers = Numbers(seed)
    deeds = []
    for _ in range(count):
        deeds.append([
            ("watch", (numbers.below(3),)), ("watch", tuple(numbers.several(2, 0, 2))), ("watch", (numbers.below(3),)),
            ("correct", numbers.below(3), numbers.below(4)), ("want", numbers.between(1, 4), numbers.below(3)),
            ("coming", numbers.below(3), numbers.between(1, 5)),
        ][numbers.below(6)])
    return deeds


def some_desk(mode="any", rest=1):
    desk = Desk(House.all_there(Wants([1, 1, 1, 1]), 3, rest=rest), [1, 2, 1])
    desk.switch(mode)
    return desk


class Alone(Case):
    def test_nothing_done(self):
        history = History()
        self.assertEqual(steps(history), [0, 0, []])
        self.refused(NothingToUndo(), history.undo)
        self.refused(NothingToRedo(), history.redo)
        self.assertIsNone(history.all_of([]))
        self.assertEqual(steps(history), [0, 0, []])

    def test_steps(self):
        history = History()
        self.assertIsNone(history.all_of([("one",), ("two", 2)]))
        self.assertEqual(steps(history), [2, 0, [("one",), ("two", 2)]])
        self.assertEqual(history.undo(), ("two", 2))
        self.assertEqual(steps(history), [1, 1, [("one",)]])
        self.assertEqual([history.undo(), history.redo(), history.redo()], [("one",), ("one",), ("two", 2)])
        self.assertEqual(steps(history), [2, 0, [("one",), ("two", 2)]])

    def test_a_deed_behind_an_undo(self):
        history = History()
        history.all_of([("one",), ("two",)])
        history.undo()
        history.all_of([("three",)])
        self.assertEqual(steps(history), [2, 0, [("one",), ("three",)]])
        self.refused(NothingToRedo(), history.redo)

    def test_deeds_are_copies(self):
        history = History()
        deeds = [("one",)]
        history.all_of(deeds)
        deeds.append(("two",))
        history.deeds().append(("three",))
        self.assertEqual(history.deeds(), [("one",)])


class UndoAndRedo(Case):
    def walk(self, history, deeds, state):
        """Do the deeds, then go all the way back and forth, and compare every state."""
        states = [state(history)]
        done = []
        for deed in deeds:
            before = steps(history)
            try:
                history.do(deed)
            except ValueError:
                self.assertEqual([state(history), steps(history)], [states[-1], before])
                continue
            done.append(history.deeds()[-1])
            states.append(state(history))
        self.assertEqual(steps(history), [len(done), 0, done])
        for place in range(len(done) - 1, -1, -1):
            self.assertEqual(history.undo(), done[place])
            self.assertEqual(state(history), states[place])
            self.assertEqual(steps(history), [place, len(done) - place, done[:place]])
        self.refused(NothingToUndo(), history.undo)
        self.assertEqual([state(history), steps(history)], [states[0], [0, len(done), []]])
        for place, deed in enumerate(done, start=1):
            self.assertEqual(history.redo(), deed)
            self.assertEqual(state(history), states[place])
            self.assertEqual(steps(history), [place, len(done) - place, done[:place]])
        self.refused(NothingToRedo(), history.redo)
        self.assertEqual([state(history), steps(history)], [states[-1], [len(done), 0, done]])
        return len(done)

    def test_books(self):
        done = [self.walk(Book(), some_book_deeds(40, seed), book_state) for seed in range(311, 331)]
        self.assertGreater(sum(done), 200)

    def test_desks(self):
        done = [self.walk(some_desk(), some_desk_deeds(30, seed), desk_state) for seed in range(331, 351)]
        self.assertGreater(sum(done), 200)

    def test_a_refused_deed_keeps_what_can_be_redone(self):
        book = Book()
        book.add_person("ann")
        book.undo()
        self.refused(BadRest(61), book.do, ("rest", 61))
        self.refused(UnknownName("bob"), book.do, ("forget", "bob"))
        self.assertEqual(steps(book), [0, 1, []])
        self.assertEqual(book.redo(), ("person", "ann", 1))
        desk = some_desk("right", rest=2)
        desk.watch([1])
        desk.undo()
        self.refused(NotRight(1), desk.watch, [0])
        self.assertEqual(steps(desk), [0, 1, []])
        self.assertEqual(desk.redo(), ("watch", (1,)))

    def test_questions_change_nothing(self):
        desk = some_desk()
        desk.watch([1])
        desk.watch([0])
        desk.undo()
        for _ in range(2):
            desk.choose(), desk.tonight(), desk.outlook(), desk_state(desk)
            self.assertEqual(steps(desk), [1, 1, [("watch", (1,))]])
        self.assertEqual(desk.redo(), ("watch", (0,)))


class AllOf(Case):
    def test_each_can_be_undone_singly(self):
        book = Book()
        book.all_of([("rest", 2), ("person", "ann", 1)])
        self.assertEqual(steps(book), [2, 0, [("rest", 2), ("person", "ann", 1)]])
        self.assertEqual([book.undo(), book.undo()], [("person", "ann", 1), ("rest", 2)])

    def test_what_can_be_redone_is_forgotten(self):
        book = Book()
        book.all_of([("rest", 2), ("rest", 3)])
        book.undo()
        book.all_of([])
        self.assertEqual(steps(book), [1, 1, [("rest", 2)]])
        book.all_of([("rest", 4)])
        self.assertEqual(steps(book), [2, 0, [("rest", 2), ("rest", 4)]])

    def look_at(self, history, deeds, state, wrong, error):
        """Put a wrong deed at every place behind the first deeds that are done."""
        before = [state(history), steps(history)]
        for place in range(len(deeds) + 1):
            self.refused(error, history.all_of, deeds[:place] + [wrong] + deeds[place:])
            self.assertEqual([state(history), steps(history)], before)
        history.all_of(deeds)
        self.assertEqual(history.done, before[1][0] + len(deeds))

    def test_a_refused_deed_among_them(self):
        book = Book()
        book.all_of([("nights", (1, 1)), ("person", "ann", 2), ("rest", 4)])
        book.undo()
        self.look_at(book, [("person", "bob", 1), ("told", "ann", 1, 1), ("strike", 2), ("restore", 2)],
                     book_state, ("rest", -1), BadRest(-1))
        desk = some_desk("right", rest=2)
        desk.watch([1])
        desk.undo()
        self.look_at(desk, [("watch", (1,)), ("watch", (0,)), ("correct", 0, 1)],
                     desk_state, ("watch", ()), WrongCount(0, 1))

    def test_a_deed_that_rests_on_an_earlier_one(self):
        book = Book()
        self.refused(UnknownName("ann"), book.all_of, [("told", "ann", 1, 1), ("person", "ann", 1)])
        book.all_of([("person", "ann", 1), ("told", "ann", 1, 1)])
        self.assertEqual(book.done, 2)
