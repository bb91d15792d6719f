"""Running scripts on a book and a desk (point 69)."""

from nightsoff.books import Book
from nightsoff.desks import Desk
from nightsoff.errors import NightsError
from nightsoff.reader import read_script
from nightsoff.replies import Refused, lines_shown, reply_to
from nightsoff.worlds import find_world


class Runner:
    """A book and, while one runs, a desk."""

    def __init__(self):
        self.book = Book()
        self.desk = None

    def run(self, text):
        """Do the statements of a script in order and list the output lines."""
        output = []
        # How everything was before the present block, outside of blocks None.
        before = None
        skipping = False
        for line, statement in read_script(text):
            if statement[0] == "begin":
                before = self._mark()
            elif statement[0] == "end":
                if skipping:
                    self._back_to(before)
                    output.append(f"{line}: undone")
                before = None
                skipping = False
            elif not skipping:
                lines = self._lines_of(line, statement)
                output.extend(lines)
                skipping = before is not None and lines == [f"{line}: refused"]
        return output

    def _lines_of(self, line, statement):
        """Do one statement and list its output lines."""
        try:
            if statement[0] == "show":
                return lines_shown(self.book, statement)
            if statement[0] == "ask":
                return [f"{line}: {reply_to(self.book, self.desk, statement)}"]
            self._do(statement)
        except NightsError:
            return [f"{line}: refused"]
        return []

    def _do(self, statement):
        """Do a deed of the book or of the desk."""
        history = self.book if self.desk is None else self.desk
        if statement[0] == "undo":
            history.undo()
        elif statement[0] == "redo":
            history.redo()
        elif self.desk is None:
            self._do_without_desk(statement)
        else:
            self._do_at_desk(statement)

    def _do_without_desk(self, statement):
        if statement[0] == "desk":
            house = self.book.told_house()
            self.desk = Desk(house, find_world(house, self.book.told_bounds()))
        elif statement[0] in ("watch", "choose", "close"):
            raise Refused()
        else:
            self.book.do(statement)

    def _do_at_desk(self, statement):
        if statement[0] == "watch":
            self.desk.watch(self.book.persons_of(statement[1]))
        elif statement[0] == "choose":
            self.desk.watch(self.desk.choose())
        elif statement[0] == "close":
            self.desk = None
        else:
            raise Refused()

    def _mark(self):
        """Return how everything is, to come back to it."""
        at_desk = None if self.desk is None else self.desk.mark()
        return (self.book.mark(), self.desk, at_desk)

    def _back_to(self, mark):
        in_book, desk, at_desk = mark
        self.book.back_to(in_book)
        self.desk = desk
        if desk is not None:
            desk.back_to(at_desk)
