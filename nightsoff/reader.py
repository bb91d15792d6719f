"""Reading lines and scripts (points 66 and 67)."""

from nightsoff.errors import BadLine
from nightsoff.names import is_name, is_number
from nightsoff.wants import Wants

# No string of the package may contain the percent sign itself.
PERCENT = 37
GROUPS = ("least", "most")
ASKS = ("world", "row", "plan", "tonight", "least", "most", "atleast")
SHOWS = ("house", "told")


class Words:
    """The words of a line, which are taken from left to right."""

    def __init__(self, line, number):
        self._words = line.split(" ")
        self._line = number
        self._taken = 0

    def are_over(self):
        return self._taken == len(self._words)

    def take(self):
        """Take the next word, which is required."""
        if self.are_over():
            raise BadLine(self._line, self._taken + 1, "short")
        self._taken += 1
        return self._words[self._taken - 1]

    def take_one_of(self, fixed):
        word = self.take()
        if word not in fixed:
            raise BadLine(self._line, self._taken, "word")
        return word

    def take_number(self):
        word = self.take()
        if not is_number(word):
            raise BadLine(self._line, self._taken, "number")
        return int(word)

    def take_name(self):
        word = self.take()
        if not is_name(word):
            raise BadLine(self._line, self._taken, "name")
        return word

    def take_names(self, least):
        """Take names up to the end of the line, at least so many."""
        names = []
        while len(names) < least or not self.are_over():
            names.append(self.take_name())
        return tuple(names)

    def check_over(self):
        if not self.are_over():
            raise BadLine(self._line, self._taken + 1, "long")


def read_line(line, number=1):
    """Return the statement of a line, or None for a remark."""
    if line == "" or line[0] == "#":
        return None
    _check_signs(line, number)
    words = Words(line, number)
    word = words.take_one_of(list(READERS))
    reading = READERS[word]
    statement = reading(word, words)
    words.check_over()
    return statement


def read_script(text):
    """List the statements of a script, each with the number of its line."""
    statements = []
    # The line of the `begin` of the present block, outside of blocks 0.
    begun = 0
    for number, line in enumerate(text.split("\n"), start=1):
        statement = read_line(line, number)
        if statement is not None:
            begun = _block_after(statement[0], number, begun)
            statements.append((number, statement))
    if begun > 0:
        raise BadLine(begun, 1, "block")
    return statements


def _block_after(word, number, begun):
    """Return where the block begins in which the next line stands, outside of blocks 0."""
    if (word == "begin" and begun > 0) or (word == "end" and begun == 0):
        raise BadLine(number, 1, "block")
    if word == "begin":
        return number
    return 0 if word == "end" else begun


def _check_signs(line, number):
    if any([not " " <= sign <= "~" or ord(sign) == PERCENT for sign in line]):
        raise BadLine(number, 0, "sign")
    if line[0] == " " or line[-1] == " " or "  " in line:
        raise BadLine(number, 0, "space")


def _read_nights(word, words):
    numbers = []
    while len(numbers) < Wants.MOST and not words.are_over():
        numbers.append(words.take_number())
    return (word, tuple(numbers))


def _read_number(word, words):
    return (word, words.take_number())


def _read_name(word, words):
    return (word, words.take_name())


def _read_person(word, words):
    name = words.take_name()
    if words.are_over():
        return (word, name, 1)
    words.take_one_of(("from",))
    return (word, name, words.take_number())


def _read_move(word, words):
    name = words.take_name()
    words.take_one_of(("to",))
    return (word, name, words.take_number())


def _read_told(word, words):
    name = words.take_name()
    low = words.take_number()
    if words.are_over():
        return (word, name, low, low)
    words.take_one_of(("to",))
    return (word, name, low, words.take_number())


def _read_alone(word, words):
    return (word,)


def _read_watch(word, words):
    return (word, words.take_names(0))


def _read_ask(word, words):
    what = words.take_one_of(ASKS)
    if what == "atleast":
        number = words.take_number()
        return (word, what, number, words.take_names(1))
    if what in GROUPS:
        return (word, what, words.take_names(1))
    return (word, what)


def _read_show(word, words):
    return (word, words.take_one_of(SHOWS))


READERS = {
    "nights": _read_nights, "rest": _read_number, "person": _read_person, "move": _read_move,
    "told": _read_told, "forget": _read_name, "strike": _read_number, "restore": _read_number,
    "undo": _read_alone, "redo": _read_alone, "begin": _read_alone, "end": _read_alone,
    "desk": _read_alone, "choose": _read_alone, "close": _read_alone,
    "watch": _read_watch, "ask": _read_ask, "show": _read_show,
}
