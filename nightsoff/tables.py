"""Tables of strings (point 70)."""

from nightsoff.errors import WrongLength


def table_lines(headings, rows, sides):
    """List the lines of a table: headings, a rule and the rows."""
    if len(sides) != len(headings):
        raise WrongLength(len(sides), len(headings))
    for row in rows:
        if len(row) != len(headings):
            raise WrongLength(len(row), len(headings))
    widths = [max([len(row[place]) for row in [headings, *rows]]) for place in range(len(headings))]
    rule = ["-" * width for width in widths]
    return [_line(row, widths, sides) for row in [headings, rule, *rows]]


def _line(cells, widths, sides):
    padded = [_padded(cell, width, side) for cell, width, side in zip(cells, widths, sides)]
    return "  ".join(padded).rstrip(" ")


def _padded(cell, width, side):
    spaces = width - len(cell)
    if side == "l":
        before = 0
    elif side == "r":
        before = spaces
    else:
        # An odd space goes to the right.
        before = spaces // 2
    return " " * before + cell + " " * (spaces - before)
