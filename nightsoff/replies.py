"""What a runner puts out for the statements that ask and show (point 69)."""

from nightsoff.errors import DeskOver, NightsError, NotPossible, NoWorld
from nightsoff.judge import judge
from nightsoff.rows import plain_row
from nightsoff.tables import table_lines
from nightsoff.worlds import check_world, find_world, group_range, has_world


class Refused(NightsError):
    """A statement cannot be done now."""


def reply_to(book, desk, statement):
    """Return the reply to a statement that asks; `desk` is None if no desk runs."""
    asking = ASKING[statement[1]]
    try:
        return asking(book, desk, statement)
    except NoWorld as e:
        return f"none {e.reason}"


def lines_shown(book, statement):
    """List the lines of a statement that shows."""
    if statement[1] == "house":
        return _house_lines(book.told_house())
    return _told_lines(book, book.told_house(), book.told_bounds())


def _world(book, desk, statement):
    return _listed("world", find_world(book.told_house(), book.told_bounds()))


def _row(book, desk, statement):
    house = book.told_house()
    return _listed("row", plain_row(house.wants, house.rest))


def _plan(book, desk, statement):
    house = book.told_house()
    plan = judge(house, find_world(house, book.told_bounds())).plan
    names = book.names()
    rows = ["+".join([names[person] for person in row]) for row in plan]
    return _listed("plan", [row if row else "-" for row in rows])


def _tonight(book, desk, statement):
    if desk is None:
        raise Refused()
    try:
        return _listed("thresholds", desk.tonight())
    except DeskOver:
        return "over"
    except NotPossible:
        return "lost"


def _least(book, desk, statement):
    return str(_group_range(book, statement[2])[0])


def _most(book, desk, statement):
    return str(_group_range(book, statement[2])[1])


def _at_least(book, desk, statement):
    _, _, number, names = statement
    return book.ask(number, *names).word


def _group_range(book, names):
    """Return the least and the most of the group of these people."""
    people = sorted(set(book.persons_of(names)))
    house = book.told_house()
    bounds = book.told_bounds()
    check_world(house, bounds)
    return group_range(house, bounds, people)


def _listed(word, items):
    return " ".join([word] + [str(item) for item in items])


def _house_lines(house):
    rows = [[str(night), str(want), str(len(house.here(night)))]
            for night, want in enumerate(house.wants, start=1)]
    return table_lines(["night", "want", "here"], rows, "rrr")


def _told_lines(book, house, bounds):
    there_is_a_world = has_world(house, bounds)
    rows = []
    for person, name in enumerate(book.names()):
        row = [house.comings[person], bounds.lows[person], bounds.highs[person]]
        row.extend(group_range(house, bounds, [person]) if there_is_a_world else ("-", "-"))
        rows.append([name] + [str(cell) for cell in row])
    return table_lines(["name", "from", "low", "high", "least", "most"], rows, "lrrrrr")


ASKING = {
    "world": _world, "row": _row, "plan": _plan, "tonight": _tonight,
    "least": _least, "most": _most, "atleast": _at_least,
}
