from nightsoff.errors import WrongLength
from nightsoff.tables import table_lines
from tests.search import Case


class Tables(Case):
    def test_sides(self):
        self.assertEqual(table_lines(["night", "want"], [["1", "2"], ["10", "0"]], "rl"),
                         ["night  want", "-----  ----", "    1  2", "   10  0"])
        self.assertEqual(table_lines(["a", "bc"], [["xyz", "w"]], "lr"), ["a    bc", "---  --", "xyz   w"])

    def test_middle(self):
        # An odd space goes to the right.
        self.assertEqual(table_lines(["12345", "x"], [["a", "y"], ["ab", "y"], ["abc", "y"], ["", "y"]], "cl"),
                         ["12345  x", "-----  -", "  a    y", " ab    y", " abc   y", "       y"])
        self.assertEqual(table_lines(["a"], [["abcd"], ["abc"]], "c"), [" a", "----", "abcd", "abc"])
        self.assertEqual(table_lines(["x", "a"], [["", "abcd"]], "lc"), ["x   a", "-  ----", "   abcd"])

    def test_no_rows(self):
        self.assertEqual(table_lines(["a", "bc"], [], "lr"), ["a  bc", "-  --"])
        self.assertEqual(table_lines(["a"], [], "c"), ["a", "-"])

    def test_empty_cells(self):
        self.assertEqual(table_lines([""], [[""], [""]], "r"), ["", "", "", ""])
        self.assertEqual(table_lines(["a", "", "b"], [["", "", "c"], ["d", "", ""]], "lll"),
                         ["a    b", "-    -", "     c", "d"])
        self.assertEqual(table_lines(["a", ""], [["b", ""]], "rr"), ["a", "-", "b"])

    def test_spaces_in_cells(self):
        self.assertEqual(table_lines(["  a  "], [[" b "], [""]], "l"), ["  a", "-----", " b", ""])

    def test_one_column(self):
        self.assertEqual(table_lines(["n"], [["10"], ["9"]], "r"), [" n", "--", "10", " 9"])

    def test_widths(self):
        for side in "lrc":
            lines = table_lines(["abc", "z"], [["a", "z"], ["abcdef", "z"]], side + "l")
            self.assertEqual({len(line) for line in lines}, {9})
            self.assertEqual(lines[1], "------  -")

    def test_refused(self):
        self.refused(WrongLength(1, 2), table_lines, ["a", "b"], [["a"]], "l")
        self.refused(WrongLength(3, 2), table_lines, ["a", "b"], [], "lll")
        self.refused(WrongLength(1, 2), table_lines, ["a", "b"], [["a", "b"], ["c"], []], "ll")
        self.refused(WrongLength(3, 1), table_lines, ["a"], [["a", "b", "c"]], "l")

    def test_copies(self):
        headings, rows = ["a"], [["b"]]
        table_lines(headings, rows, "l").append("c")
        self.assertEqual([headings, rows, table_lines(headings, rows, "l")], [["a"], [["b"]], ["a", "-", "b"]])
