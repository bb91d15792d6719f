"""Books: facts that are told in any order (point 65).

The state of a book is a tuple of records. A record is a pair: whether it is living,
and its deed. Its number is its place, counted from 1.
"""

from nightsoff.answers import answer
from nightsoff.bounds import Bounds
from nightsoff.checks import check_number, check_rest
from nightsoff.errors import BadName, BadNumber, KnownName, NoRecord, UnknownName
from nightsoff.forms import Form
from nightsoff.history import History
from nightsoff.houses import House
from nightsoff.names import is_name
from nightsoff.tellings import LIMIT
from nightsoff.wants import Wants
from nightsoff.worlds import check_world, group_range, reason_against

USUAL_REST = 1


class Book(History):
    """Facts about one house, with records that can be struck and restored."""

    def __init__(self):
        super().__init__()
        self._state = ()

    def do(self, deed):
        """Do a deed that tells a fact, or strikes or restores a record."""
        if deed[0] == "strike":
            state = _marked(self._state, deed[1], False)
        elif deed[0] == "restore":
            state = _marked(self._state, deed[1], True)
        else:
            check = CHECKS[deed[0]]
            check(self._state, deed)
            state = self._state + ((True, deed),)
        self._keep(deed, state)

    def set_nights(self, *numbers):
        self.do(("nights", numbers))

    def add_person(self, name, coming=1):
        self.do(("person", name, coming))

    def tell(self, **numbers):
        """Tell the exact numbers of several people."""
        self.all_of([("told", name, number, number) for name, number in numbers.items()])

    def names(self):
        """List the names of the people of the book."""
        return sorted(set([deed[1] for living, deed in self._state if living and deed[0] == "person"]))

    def persons_of(self, names):
        """List the persons with these names."""
        known = self.names()
        for name in names:
            if name not in known:
                raise UnknownName(name)
        return [known.index(name) for name in names]

    def records(self):
        """List the number, the life and the deed of each record."""
        return [(number, living, deed) for number, (living, deed) in enumerate(self._state, start=1)]

    def told_house(self):
        """Return the house of the book."""
        nights = _counting(self._state, ("nights",), None)
        rest = _counting(self._state, ("rest",), None)
        wants = Wants(() if nights is None else nights[1])
        comings = []
        for name in self.names():
            deed = _counting(self._state, ("person", "move"), name)
            comings.append(min(deed[2], len(wants) + 1))
        return House(wants, comings, rest=USUAL_REST if rest is None else rest[1])

    def told_bounds(self):
        """Return the bounds of the book."""
        nights = self.told_house().nights
        lows = []
        highs = []
        for name in self.names():
            deed = _counting(self._state, ("told", "forget"), name)
            told = deed is not None and deed[0] == "told"
            lows.append(deed[2] if told else 0)
            highs.append(deed[3] if told else nights)
        return Bounds(lows, highs)

    def state_word(self):
        """Return "world" if there is a world, otherwise the reason against it."""
        reason = reason_against(self.told_house(), self.told_bounds())
        return "world" if reason is None else reason[0]

    def spread(self, name):
        """Return the least and the most of the person over all worlds."""
        persons = self.persons_of([name])
        house = self.told_house()
        bounds = self.told_bounds()
        check_world(house, bounds)
        return group_range(house, bounds, persons)

    def ask(self, number, *names):
        """Say whether these people kept at least that many nights together."""
        persons = self.persons_of(names)
        people = len(self.names())
        return answer(self.told_house(), self.told_bounds(), Form.of(people, *persons), number)


def _counting(records, words, name):
    """Return the last living deed with one of these words, of the name if there is one."""
    found = [deed for living, deed in records
             if living and deed[0] in words and (name is None or deed[1] == name)]
    return found[-1] if found else None


def _marked(records, number, living):
    """Return the records after the record with that number is struck or restored."""
    if not 1 <= number <= len(records) or records[number - 1][0] == living:
        raise NoRecord(number)
    return records[:number - 1] + ((living, records[number - 1][1]),) + records[number:]


def _is_known(records, name):
    return _counting(records, ("person",), name) is not None


def _check_known(records, deed):
    if not _is_known(records, deed[1]):
        raise UnknownName(deed[1])


def _check_coming(coming):
    if not 1 <= coming <= Wants.MOST + 1:
        raise BadNumber(2, coming)


def _check_nights(records, deed):
    Wants(deed[1])


def _check_told_rest(records, deed):
    check_rest(deed[1])


def _check_person(records, deed):
    if not is_name(deed[1]):
        raise BadName(deed[1])
    if _is_known(records, deed[1]):
        raise KnownName(deed[1])
    _check_coming(deed[2])


def _check_move(records, deed):
    _check_known(records, deed)
    _check_coming(deed[2])


def _check_told(records, deed):
    _check_known(records, deed)
    check_number(2, deed[2], LIMIT)
    check_number(3, deed[3], LIMIT)


CHECKS = {
    "nights": _check_nights, "rest": _check_told_rest, "person": _check_person,
    "move": _check_move, "told": _check_told, "forget": _check_known,
}
