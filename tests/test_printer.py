from nightsoff.printer import print_script, print_statement
from nightsoff.reader import read_line, read_script
from tests.search import Case, Numbers
from tests.test_reader import LINES

FIRST_FORMS = {
    ("person", "ann", 1): "person ann", ("person", "ann", 0): "person ann from 0",
    ("person", "ann", 2): "person ann from 2", ("told", "ann", 3, 3): "told ann 3",
    ("told", "ann", 0, 0): "told ann 0", ("told", "ann", 3, 4): "told ann 3 to 4", ("told", "ann", 4, 3): "told ann 4 to 3",
    ("move", "ann", 1): "move ann to 1", ("nights", ()): "nights", ("nights", (3, 0)): "nights 3 0",
    ("watch", ()): "watch", ("watch", ("b", "a")): "watch b a", ("ask", "least", ("a", "b")): "ask least a b",
    ("ask", "atleast", 12, ("a", "b")): "ask atleast 12 a b", ("ask", "world"): "ask world",
    ("show", "told"): "show told", ("strike", 10 ** 31 - 1): "strike " + "9" * 31, ("end",): "end",
}


def some_statements(count, seed):
    numbers = Numbers(seed)
    found = []
    for _ in range(count):
        name, other = [["ann", "b2", "x" * 12][numbers.below(3)] for _ in range(2)]
        number, high = numbers.below(3), numbers.below(10 ** 9)
        names = (name, other)[:numbers.between(1, 2)]
        found.append([
            ("nights", tuple(numbers.several(numbers.below(61), 0, 99))), ("rest", high), ("person", name, number),
            ("move", name, number), ("told", name, number, number), ("told", name, number, high), ("forget", name),
            ("strike", number), ("restore", high), ("undo",), ("watch", names), ("watch", ()), ("ask", "plan"),
            ("ask", "least", names), ("ask", "most", names), ("ask", "atleast", high, names), ("show", "house"),
        ][numbers.below(17)])
    return found


class Printing(Case):
    def test_first_forms(self):
        for statement, line in FIRST_FORMS.items():
            self.assertEqual(print_statement(statement), line)

    def test_read_back(self):
        for statement in [*LINES.values(), *FIRST_FORMS, *some_statements(200, 601)]:
            self.assertEqual(read_line(print_statement(statement)), statement)

    def test_every_first_form(self):
        for line, statement in LINES.items():
            if line not in ("person ann from 1", "told to 0 to 0"):
                self.assertEqual(print_statement(statement), line)

    def test_scripts(self):
        self.assertEqual(print_script([]), "")
        self.assertEqual(print_script([("undo",), ("rest", 3)]), "undo\nrest 3\n")
        for seed in range(602, 612):
            statements = some_statements(30, seed)
            read = read_script(print_script(statements))
            self.assertEqual(read, list(enumerate(statements, start=1)))

    def test_the_list_stays(self):
        statements = [("undo",)]
        print_script(statements)
        self.assertEqual(statements, [("undo",)])
