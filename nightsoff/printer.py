"""Printing statements and scripts (point 68)."""


def print_statement(statement):
    """Return the line of a statement, in its first form if that gives it."""
    return " ".join(_words_of(statement))


def print_script(statements):
    """Return the lines of these statements, each followed by a newline."""
    return "".join([print_statement(statement) + "\n" for statement in statements])


def _words_of(statement):
    """List the words of the line of a statement."""
    if statement[0] == "person":
        _, name, coming = statement
        return ["person", name] if coming == 1 else ["person", name, "from", str(coming)]
    if statement[0] == "move":
        _, name, coming = statement
        return ["move", name, "to", str(coming)]
    if statement[0] == "told":
        _, name, low, high = statement
        return ["told", name, str(low)] if low == high else ["told", name, str(low), "to", str(high)]
    words = []
    for item in statement:
        several = item if isinstance(item, tuple) else (item,)
        words.extend([str(one) for one in several])
    return words
