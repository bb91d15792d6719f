from nightsoff.books import Book
from nightsoff.desks import Desk
from nightsoff.errors import BadLine
from nightsoff.forms import Form
from nightsoff.answers import answer
from nightsoff.judge import judge
from nightsoff.printer import print_statement
from nightsoff.reader import read_script
from nightsoff.rows import plain_row
from nightsoff.runner import Runner
from nightsoff.tables import table_lines
from nightsoff.worlds import find_world, group_least, group_most
from tests.search import Case, Numbers
from tests.test_history import book_state, desk_state, steps

BASE = """nights 1 1 1 1
rest 2
person cid
person ann
person bob
told ann 2
"""


class Plain:
    """Point 69 straight from its words, without blocks."""

    def __init__(self):
        self.book = Book()
        self.desk = None

    def step(self, statement):
        """Do a statement and return what is put out for it, without the line's number."""
        if statement[0] == "show":
            return None, self.shown(statement[1])
        try:
            return (self.asked(statement), []) if statement[0] == "ask" else (self.done(statement), [])
        except ValueError:
            return "refused", []

    def done(self, statement):
        word = statement[0]
        if word in ("undo", "redo"):
            getattr(self.desk or self.book, word)()
        elif word in ("desk", "nights", "rest", "person", "move", "told", "forget", "strike", "restore"):
            if self.desk is not None:
                return "refused"
            if word == "desk":
                house = self.book.told_house()
                self.desk = Desk(house, find_world(house, self.book.told_bounds()))
            else:
                self.book.do(statement)
        elif self.desk is None:
            return "refused"
        elif word == "close":
            self.desk = None
        elif word == "choose":
            self.desk.watch(self.desk.choose())
        else:
            self.desk.watch([self.book.names().index(name) for name in statement[1]])
        return None

    def asked(self, statement):
        what, house, bounds = statement[1], self.book.told_house(), self.book.told_bounds()
        names = self.book.names()
        if what == "row":
            return " ".join(["row", *map(str, plain_row(house.wants, house.rest))])
        if what == "tonight":
            if self.desk is None:
                return "refused"
            if self.desk.now > self.desk.house_now().nights:
                return "over"
            if not self.desk.still_kept():
                return "lost"
            return " ".join(["thresholds", *map(str, self.desk.tonight())])
        people = [names.index(name) for name in (statement[-1] if len(statement) > 2 else ())]
        if self.book.state_word() != "world":
            return "none " + self.book.state_word()
        world = find_world(house, bounds)
        if what == "world":
            return " ".join(["world", *map(str, world)])
        if what == "plan":
            rows = judge(house, world).plan.rows
            return " ".join(["plan", *["+".join(names[person] for person in row) or "-" for row in rows]])
        if what == "atleast":
            return answer(house, bounds, Form.of(house.people, *people), statement[2]).word
        group = group_least if what == "least" else group_most
        return str(group(house, bounds, sorted(set(people)))[0])

    def shown(self, what):
        house, bounds = self.book.told_house(), self.book.told_bounds()
        if what == "house":
            rows = [[night, house.wants[night], len(house.here(night))] for night in range(1, house.nights + 1)]
            return table_lines(["night", "want", "here"], [list(map(str, row)) for row in rows], "rrr")
        rows = []
        for person, name in enumerate(self.book.names()):
            spread = self.book.spread(name) if self.book.state_word() == "world" else ("-", "-")
            row = [name, house.comings[person], bounds.lows[person], bounds.highs[person], *spread]
            rows.append(list(map(str, row)))
        return table_lines(["name", "from", "low", "high", "least", "most"], rows, "lrrrrr")


def plain_run(text):
    """Run a script anew from its beginning, and for a block that is undone once more without it."""
    output, done, block, stopped = [], [], None, False
    plain = Plain()
    for line, statement in read_script(text):
        if statement[0] == "begin":
            block = []
        elif statement[0] == "end":
            if stopped:
                output.append(f"{line}: undone")
                plain = Plain()
                for earlier in done:
                    plain.step(earlier)
            else:
                done += block
            block, stopped = None, False
        elif not stopped:
            reply, lines = plain.step(statement)
            output += lines if reply is None else [f"{line}: {reply}"]
            (done if block is None else block).append(statement)
            stopped = reply == "refused" and block is not None
    return output, plain


def some_script(count, seed, blocks=True):
    """A script in which much is refused, behind facts from which a world comes."""
    numbers = Numbers(seed)
    lines = BASE.split("\n")[:-1]
    inside = False
    while len(lines) < count:
        name, other = [["ann", "bob", "cid", "dan"][numbers.below(20) * 4 // 23] for _ in range(2)]
        number = numbers.below(4)
        statement = [
            ("nights", tuple(numbers.several(numbers.below(5), 0, 1))), ("rest", number), ("person", "dan", number),
            ("move", name, numbers.between(0, 5)), ("told", name, number, number), ("told", name, number, number + 2),
            ("forget", name), ("strike", numbers.below(9)), ("restore", numbers.below(9)), ("undo",), ("undo",),
            ("redo",), ("desk",), ("desk",), ("desk",), ("close",), ("choose",), ("choose",), ("choose",),
            ("watch", (name,)), ("watch", ()), ("watch", (name, other)), ("ask", "world"), ("ask", "row"),
            ("ask", "plan"), ("ask", "tonight"), ("ask", "tonight"), ("ask", "least", (name,)),
            ("ask", "most", (name, other, name)), ("ask", "atleast", number, (name, other)), ("ask", "atleast", 2, (name,)), ("show", "house"),
            ("show", "told"), ("forget", "ann"), ("told", "ann", 0, 9), ("rest", 1),
        ][numbers.below(36)]
        lines.append(print_statement(statement))
        if blocks and numbers.below(4) == 0:
            lines.append("end" if inside else "begin")
            inside = not inside
    return "\n".join(lines + (["end"] if inside else []))


def whole_state(runner):
    desk = None if runner.desk is None else [desk_state(runner.desk), steps(runner.desk), runner.desk.mode]
    return [book_state(runner.book), steps(runner.book), desk]


class Running(Case):
    def test_a_script(self):
        runner = Runner()
        self.assertIsInstance(runner.book, Book)
        self.assertIsNone(runner.desk)
        self.assertEqual(runner.run("nights 2 1 2\nperson ann\nperson bob\nperson cid from 2\ntold ann 2\nask world\n"
                                    "ask least bob\nask atleast 4 ann bob"),
                         ["6: world 2 2 1", "7: 2", "8: yes"])
        self.assertEqual(runner.book.names(), ["ann", "bob", "cid"])

    def test_an_empty_script(self):
        runner = Runner()
        self.assertEqual([runner.run(""), runner.run("\n# nothing\n"), runner.run("begin\nend")], [[], [], []])
        self.assertEqual(whole_state(runner), whole_state(Runner()))

    def test_an_empty_book(self):
        self.assertEqual(
            Runner().run("ask world\nask row\nask plan\nask tonight\nask least ann\nask atleast 0 ann\nshow house\n"
                         "show told\nundo\nredo\nclose\nchoose\nwatch\ndesk\nask tonight\nchoose\nwatch\nclose"),
            ["1: world", "2: row", "3: plan", "4: refused", "5: refused", "6: refused",
             "night  want  here", "-----  ----  ----",
             "name  from  low  high  least  most", "----  ----  ---  ----  -----  ----",
             "9: refused", "10: refused", "11: refused", "12: refused", "13: refused",
             "15: over", "16: refused", "17: refused"])

    def test_asking_and_showing(self):
        runner = Runner()
        self.assertEqual(runner.run(BASE), [])
        self.assertEqual(
            runner.run("ask world\nask row\nask plan\nask least bob\nask most cid bob cid\nask atleast 2 bob cid\n"
                       "ask atleast 3 bob cid\nask atleast 3 bob bob cid\nask atleast 4 bob bob cid\nshow told\nshow house"),
            ["1: world 2 1 1", "2: row 3 1", "3: plan ann bob cid ann", "4: 1", "5: 2", "6: yes", "7: no", "8: yes", "9: no",
             "name  from  low  high  least  most", "----  ----  ---  ----  -----  ----",
             "ann      1    2     2      2     2", "bob      1    0     4      1     1", "cid      1    0     4      1     1",
             "night  want  here", "-----  ----  ----", "    1     1     3", "    2     1     3", "    3     1     3",
             "    4     1     3"])

    def test_rows_of_a_plan(self):
        self.assertEqual(Runner().run("nights 2 0 1\nrest 0\nperson bob\nperson ann\nperson cid from 9\nask plan\nshow house"),
                         ["6: plan ann+bob - ann", "night  want  here", "-----  ----  ----", "    1     2     2",
                          "    2     0     2", "    3     1     2"])

    def test_open_answers(self):
        runner = Runner()
        runner.run(BASE + "forget ann")
        self.assertEqual(runner.run("ask atleast 2 ann\nask atleast 1 ann\nask atleast 3 ann\nask least ann\nask most ann"),
                         ["1: open", "2: yes", "3: no", "4: 1", "5: 2"])

    def test_no_world(self):
        for line, reason in (("told bob 3 to 1", "crossed"), ("told bob 3", "low"), ("told ann 0 to 1\ntold bob 0", "high")):
            runner = Runner()
            runner.run(BASE + line)
            self.assertEqual(
                runner.run("ask world\nask plan\nask least bob\nask most bob cid\nask atleast 0 bob\nask row\nask least dan\n"
                           "ask most bob dan\nask atleast 0 dan\ndesk\nask tonight\nshow told")[:11],
                [f"{number}: none {reason}" for number in range(1, 6)] + ["6: row 3 1"]
                + [f"{number}: refused" for number in range(7, 12)])
            self.assertEqual([line.split()[-2:] for line in runner.run("show told")[2:]], [["-", "-"]] * 3)

    def test_refused_deeds(self):
        runner = Runner()
        runner.run(BASE)
        before = whole_state(runner)
        lines = ["nights 31", "rest 61", "person ann", "person dan from 0", "person dan from 62", "move dan to 1",
                 "move ann to 0", "told dan 1", "told ann " + "9" * 31, "forget dan", "strike 7", "restore 1", "redo",
                 "watch", "watch ann", "choose", "close", "ask tonight", "ask least dan"]
        self.assertEqual(runner.run("\n".join(lines)), [f"{number}: refused" for number in range(1, len(lines) + 1)])
        self.assertEqual(whole_state(runner), before)

    def test_at_a_desk(self):
        runner = Runner()
        self.assertEqual(runner.run(BASE + "desk"), [])
        self.assertIsInstance(runner.desk, Desk)
        self.assertEqual([runner.desk.told_now(), runner.desk.mode], [[2, 1, 1], "right"])
        self.assertEqual(
            runner.run("desk\nnights 1\nrest 1\nperson dan\nmove ann to 1\ntold ann 2\nforget ann\nstrike 1\nrestore 1\n"
                       "undo\nredo\nwatch dan\nwatch bob\nwatch ann ann\nask tonight\nask world"),
            [f"{number}: refused" for number in range(1, 15)] + ["15: thresholds 1 1", "16: world 2 1 1"])
        self.assertEqual(runner.run("watch ann\nask tonight\nchoose\nundo\nredo\nchoose\nchoose\nask tonight\nchoose"),
                         ["2: thresholds 1", "8: over", "9: refused"])
        self.assertEqual(runner.desk.rows_so_far().rows, ((0,), (1,), (2,), (0,)))
        self.assertEqual(runner.run("undo\nundo\nundo\nundo\nundo\nclose\nclose"), ["5: refused", "7: refused"])
        self.assertEqual([runner.desk, runner.book.done], [None, 6])

    def test_the_book_is_as_before(self):
        runner = Runner()
        runner.run(BASE + "undo")
        before = [book_state(runner.book), steps(runner.book)]
        runner.run("desk\nchoose\nundo\nclose")
        self.assertEqual([book_state(runner.book), steps(runner.book)], before)
        self.assertEqual(runner.run("redo\nask world"), ["2: world 2 1 1"])

    def test_what_is_done_on_them_counts(self):
        runner = Runner()
        runner.book.set_nights(1, 1)
        runner.book.add_person("ann")
        self.assertEqual(runner.run("rest 0\ndesk\nask world"), ["3: world 2"])
        runner.desk.switch("any")
        runner.desk.do(("want", 2, 0))
        self.assertEqual(runner.run("ask tonight\nwatch ann\nask tonight\nwatch"), ["1: lost", "3: lost"])
        self.assertEqual(runner.run("undo\nundo\nundo\nask tonight\nundo"), ["4: thresholds 1 1", "5: refused"])
        runner.book.add_person("bob")
        self.assertEqual(runner.run("watch bob\nwatch ann"), ["1: refused"])

    def test_names_of_the_moment(self):
        runner = Runner()
        runner.run("nights 1 1\nrest 0\nperson bob\ntold bob 2\ndesk")
        # Now bob is person 1 of the book, whom the desk does not have.
        runner.book.add_person("ann")
        self.assertEqual(runner.run("watch bob\nwatch ann"), ["1: refused"])
        self.assertEqual(runner.desk.rows_so_far().rows, ((0,),))

    def test_names_that_are_words(self):
        runner = Runner()
        names = ["undo", "redo", "desk", "choose", "close", "begin", "end", "ask", "show", "watch"]
        runner.run("nights 1\n" + "\n".join("person " + name for name in names))
        self.assertEqual(runner.run("\n".join("forget " + name for name in names)), [])
        self.assertEqual([runner.book.deeds()[-10:], runner.desk], [[("forget", name) for name in names], None])
        runner.run("desk")
        before = whole_state(runner)
        self.assertEqual(runner.run("\n".join("forget " + name for name in names)),
                         [f"{number}: refused" for number in range(1, 11)])
        self.assertEqual(whole_state(runner), before)

    def test_wrong_lines(self):
        runner = Runner()
        runner.run(BASE)
        before = whole_state(runner)
        self.refused(BadLine(3, 2, "number"), runner.run, "rest 1\nundo\nrest x\n")
        self.refused(BadLine(2, 1, "block"), runner.run, "rest 1\nbegin\nrest 0")
        self.refused(BadLine(1, 0, "space"), runner.run, " ")
        self.assertEqual(whole_state(runner), before)

    def test_output_is_new(self):
        runner = Runner()
        runner.run("ask world").append("x")
        self.assertEqual(runner.run("ask world"), ["1: world"])


class Blocks(Case):
    def test_a_block_that_is_done(self):
        runner = Runner()
        self.assertEqual(runner.run("begin\n" + BASE + "ask world\nend\nask world"), ["8: world 2 1 1", "10: world 2 1 1"])
        self.assertEqual(runner.book.done, 6)

    def test_a_block_that_is_undone(self):
        runner = Runner()
        runner.run(BASE + "undo")
        before = whole_state(runner)
        self.assertEqual(runner.run("begin\nrest 0\nask row\nrest 99\nask row\nrest 1\nend\nask row"),
                         ["3: row 1 1 1 1", "4: refused", "7: undone", "8: row 3 1"])
        self.assertEqual(whole_state(runner), before)
        self.assertEqual(runner.run("redo\nask world"), ["2: world 2 1 1"])

    def test_an_ask_that_is_refused(self):
        runner = Runner()
        runner.run(BASE)
        before = whole_state(runner)
        for ask in ("ask least dan", "ask tonight", "ask atleast 1 ann dan", "undo\nredo\nredo"):
            output = runner.run(f"begin\nundo\nredo\ntold bob 1\n{ask}\nask row\nend")
            self.assertEqual([line.split()[1] for line in output], ["refused", "undone"])
            self.assertEqual(whole_state(runner), before)
        self.assertEqual(runner.run("begin\nask world\ntold bob 3\nask world\nshow house\nend")[:3],
                         ["2: world 2 1 1", "4: none low", "night  want  here"])

    def test_a_desk_in_a_block(self):
        runner = Runner()
        runner.run(BASE)
        before = whole_state(runner)
        self.assertEqual(runner.run("begin\ndesk\nchoose\nwatch dan\nend"), ["4: refused", "5: undone"])
        self.assertEqual(whole_state(runner), before)
        runner.run("desk\nchoose\nchoose\nundo")
        before = whole_state(runner)
        self.assertEqual(runner.run("begin\nredo\nchoose\nclose\nrest 3\nundo\ndesk\nchoose\ndesk\nend"),
                         ["9: refused", "10: undone"])
        self.assertEqual(whole_state(runner), before)
        self.assertEqual(runner.run("begin\nundo\nundo\nend"), ["3: refused", "4: undone"])
        self.assertEqual(whole_state(runner), before)
        self.assertEqual(runner.run("begin\nclose\nend\nclose"), ["4: refused"])

    def test_blocks_one_after_another(self):
        runner = Runner()
        self.assertEqual(runner.run("begin\nrest 99\nend\nbegin\nrest 3\nend\nbegin\nend\nbegin\nundo\nundo\nend"),
                         ["2: refused", "3: undone", "11: refused", "12: undone"])
        self.assertEqual(runner.book.deeds(), [("rest", 3)])


class AgainstItsWords(Case):
    def test_scripts(self):
        words = {}
        for seed in range(621, 721):
            text = some_script(60, seed)
            runner = Runner()
            output, plain = plain_run(text)
            self.assertEqual(runner.run(text), output)
            self.assertEqual(whole_state(runner), whole_state(plain))
            for line in output:
                word = line.split()[1]
                words[word] = words.get(word, 0) + 1
        for word in ("refused", "undone", "world", "row", "plan", "thresholds", "over", "none", "yes", "no", "open"):
            self.assertGreater(words.get(word, 0), 2, word)

    def test_line_by_line(self):
        for seed in range(721, 731):
            lines = some_script(60, seed, blocks=False).split("\n")
            runner, other = Runner(), Runner()
            single = []
            for number, line in enumerate(lines, start=1):
                single += [f"{number}{found[1:]}" if found.startswith("1: ") else found for found in other.run(line)]
            self.assertEqual(runner.run("\n".join(lines)), single)
            self.assertEqual(whole_state(runner), whole_state(other))

    def test_without_the_blocks_that_are_undone(self):
        undone = 0
        for seed in range(731, 751):
            lines = some_script(50, seed).split("\n")
            runner = Runner()
            ends = [int(found.split(":")[0]) for found in runner.run("\n".join(lines)) if found.endswith(": undone")]
            for end in ends:
                begin = max(place for place in range(end) if lines[place] == "begin")
                lines[begin:end] = ["#"] * (end - begin)
            other = Runner()
            other.run("\n".join(lines))
            self.assertEqual(whole_state(other), whole_state(runner))
            undone += len(ends)
        self.assertGreater(undone, 30)
