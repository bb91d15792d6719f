from nightsoff.errors import BadLine
from nightsoff.reader import read_line, read_script
from tests.search import Case

LINES = {
    "nights": ("nights", ()), "nights 0": ("nights", (0,)), "nights 2 10 31": ("nights", (2, 10, 31)),
    "rest 0": ("rest", 0), "rest 60": ("rest", 60), "rest 61": ("rest", 61),
    "person ann": ("person", "ann", 1), "person ann from 2": ("person", "ann", 2),
    "person ann from 1": ("person", "ann", 1), "person from from 0": ("person", "from", 0),
    "move ann to 7": ("move", "ann", 7), "move to to 7": ("move", "to", 7),
    "told ann 3": ("told", "ann", 3, 3), "told ann 3 to 5": ("told", "ann", 3, 5),
    "told ann 5 to 3": ("told", "ann", 5, 3), "told to 0 to 0": ("told", "to", 0, 0),
    "forget ann": ("forget", "ann"), "strike 12": ("strike", 12), "restore 12": ("restore", 12),
    "undo": ("undo",), "redo": ("redo",), "begin": ("begin",), "end": ("end",), "desk": ("desk",),
    "choose": ("choose",), "close": ("close",),
    "watch": ("watch", ()), "watch ann": ("watch", ("ann",)), "watch bob ann bob": ("watch", ("bob", "ann", "bob")),
    "ask world": ("ask", "world"), "ask row": ("ask", "row"), "ask plan": ("ask", "plan"),
    "ask tonight": ("ask", "tonight"), "ask least ann": ("ask", "least", ("ann",)),
    "ask most bob ann": ("ask", "most", ("bob", "ann")), "ask atleast 3 ann": ("ask", "atleast", 3, ("ann",)),
    "ask atleast 0 ann ann b2": ("ask", "atleast", 0, ("ann", "ann", "b2")),
    "show house": ("show", "house"), "show told": ("show", "told"),
}

WRONG = {
    "sign": {
        "undo\t": 0, "undo\n": 0, "undo\r": 0, "person ann\x7f": 0, "person \u00e9": 0, "x%": 0, " %": 0,
        "a  \u2603": 0, "rest \u0663": 0, "undo\x00": 0, "\x1f": 0, "\n": 0, "\u00a0": 0,
    },
    "space": {
        " ": 0, "  ": 0, " undo": 0, "undo ": 0, "rest  1": 0, " x": 0, "x  y": 0, " # remark": 0, "undo  # no": 0,
    },
    "short": {
        "rest": 2, "person": 2, "person ann from": 4, "move": 2, "move ann": 3, "move ann to": 4, "told": 2,
        "told ann": 3, "told ann 1 to": 5, "forget": 2, "strike": 2, "restore": 2, "ask": 2, "ask least": 3,
        "ask most": 3, "ask atleast": 3, "ask atleast 3": 4, "show": 2,
    },
    "word": {
        "x": 1, "~": 1, "!": 1, "Undo": 1, "night 1": 1, "undo#": 1, "0": 1, "person ann to 3": 3, "person ann 3": 3,
        "person ann fro": 3, "move ann from 3": 3, "move ann 3": 3, "told ann 1 2": 4, "told ann 1 from 2": 4,
        "ask who": 2, "ask World": 2, "ask house": 2, "show world": 2, "show 1 2 3": 2, "asks": 1,
    },
    "number": {
        "nights x": 2, "nights 1 2 x 4 y": 4, "nights 01": 2, "nights 00": 2, "rest -1": 2, "rest +1": 2,
        "rest 1.0": 2, "rest " + "9" * 32: 2, "rest x 1": 2, "person ann from bob": 4, "person ann from 02 3": 4,
        "move ann to bob": 4, "told ann bob": 3, "told ann 1 to x": 5, "told ann to 3": 3, "strike ann": 2,
        "restore 1a": 2, "ask atleast ann 3": 3, "ask atleast ann": 3, "nights 1_0": 2,
    },
    "name": {
        "person Ann": 2, "person ~": 2, "person 1": 2, "person 1a": 2, "person a-b": 2, "person " + "a" * 13: 2, "person Ann to": 2,
        "move Ann": 2, "told 3": 2, "forget 3": 2, "watch ann 3": 3, "watch ann Bob x": 3, "ask least 3": 3,
        "ask most ann bo_b": 4, "ask atleast 3 4": 4, "ask atleast 3 ann B": 5, "forget _a": 2,
    },
    "long": {
        "nights" + " 1" * 61: 62, "nights" + " 1" * 60 + " x y": 62, "rest 1 2": 3, "rest 1 x": 3, "person ann from 1 2": 5,
        "move ann to 1 to": 5, "told ann 1 to 2 3": 6, "forget ann bob": 3, "strike 1 2": 3, "restore 1 x": 3,
        "undo 1": 2, "redo x": 2, "begin block": 2, "end 1": 2, "desk ann": 2, "choose ann": 2, "close #": 2,
        "ask world now": 3, "ask row 1": 3, "ask plan ann bob": 3, "ask tonight 1": 3, "show house ann": 3,
        "show told 1": 3,
    },
}


class Lines(Case):
    def test_statements(self):
        for line, statement in LINES.items():
            with self.subTest(line):
                self.assertEqual(read_line(line), statement)

    def test_sixty_nights(self):
        self.assertEqual(read_line("nights" + " 7" * 60), ("nights", (7,) * 60))

    def test_remarks(self):
        for line in ("", "#", "# told ann  1 ", "#\t\u2603", "##", "#undo", "#x\ny", "# \x7f"):
            self.assertIsNone(read_line(line))
            self.assertIsNone(read_line(line, 3))

    def test_long_numbers_and_names(self):
        self.assertEqual(read_line("rest " + "9" * 31), ("rest", 10 ** 31 - 1))
        self.assertEqual(read_line("rest 1" + "0" * 30), ("rest", 10 ** 30))
        self.assertEqual(read_line("person abcdefghijkl"), ("person", "abcdefghijkl", 1))
        self.assertEqual(read_line("person a23456789012 from 3"), ("person", "a23456789012", 3))

    def test_wrong_lines(self):
        for why, lines in WRONG.items():
            for line, word in lines.items():
                with self.subTest(line):
                    self.refused(BadLine(1, word, why), read_line, line)
                    self.refused(BadLine(17, word, why), read_line, line, 17)
                    self.refused(BadLine(4, word, why), read_line, line, number=4)

    def test_blocks_are_not_looked_at(self):
        self.assertEqual([read_line("end"), read_line("begin", 2)], [("end",), ("begin",)])


class Scripts(Case):
    def test_empty(self):
        self.assertEqual([read_script(""), read_script("\n"), read_script("#\n\n# x\n")], [[], [], []])

    def test_numbers_of_lines(self):
        self.assertEqual(read_script("undo\n\n# redo\nredo\nwatch a b\n"),
                         [(1, ("undo",)), (4, ("redo",)), (5, ("watch", ("a", "b")))])
        self.assertEqual(read_script("\nundo"), [(2, ("undo",))])

    def test_every_row(self):
        found = read_script("\n".join(line for line in LINES if line not in ("begin", "end")))
        wanted = [statement for line, statement in LINES.items() if line not in ("begin", "end")]
        self.assertEqual(found, list(enumerate(wanted, start=1)))

    def test_first_wrong_line(self):
        for why, lines in WRONG.items():
            for line, word in lines.items():
                if "\n" not in line:
                    self.refused(BadLine(3, word, why), read_script, f"undo\n\n{line}\nx\n")
        self.refused(BadLine(2, 0, "sign"), read_script, "undo\nundo\r\nx\n")

    def test_blocks(self):
        self.assertEqual(read_script("begin\nend\nbegin\nundo\nend"),
                         [(1, ("begin",)), (2, ("end",)), (3, ("begin",)), (4, ("undo",)), (5, ("end",))])
        self.refused(BadLine(1, 1, "block"), read_script, "end")
        self.refused(BadLine(1, 1, "block"), read_script, "begin")
        self.refused(BadLine(3, 1, "block"), read_script, "begin\nend\nend")
        self.refused(BadLine(3, 1, "block"), read_script, "begin\n\nbegin\nend\nend")
        self.refused(BadLine(2, 1, "block"), read_script, "undo\nbegin\nundo\n")
        self.refused(BadLine(3, 1, "block"), read_script, "begin\nend\nbegin")

    def test_names_that_are_words(self):
        self.assertEqual(read_script("forget end\nforget begin\nwatch begin end\nask least begin"),
                         [(1, ("forget", "end")), (2, ("forget", "begin")), (3, ("watch", ("begin", "end"))),
                          (4, ("ask", "least", ("begin",)))])

    def test_order_of_wrong_lines(self):
        # A block without an end is found last, the others in the order of the lines.
        self.refused(BadLine(2, 1, "word"), read_script, "begin\nx")
        self.refused(BadLine(1, 1, "block"), read_script, "end\nx")
        self.refused(BadLine(1, 1, "word"), read_script, "x\nend")
        self.refused(BadLine(1, 2, "long"), read_script, "end 1")
        self.refused(BadLine(2, 2, "long"), read_script, "begin\nbegin 1")
        self.refused(BadLine(2, 1, "block"), read_script, "begin\nbegin\nx")

    def test_answers_are_new(self):
        read_script("undo").clear()
        self.assertEqual(read_script("undo"), [(1, ("undo",))])
