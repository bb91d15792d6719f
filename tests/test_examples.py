"""The examples of the interface, as they stand in the document."""

import unittest

from nightsoff import errors

EXAMPLES = r'''
>>> from nightsoff.wants import Wants
>>> run = Wants([2, 1]) + 2 * Wants.of(0, 3)
>>> [run.numbers, abs(run), run[4], (-run << 4).numbers, (run >> 1).numbers]
[(2, 1, 0, 3, 0, 3), 9, 3, (1, 2), (0, 2, 1, 0, 3, 0, 3)]

>>> from nightsoff.tellings import Telling
>>> told = Telling([3, 1, 0])
>>> [told.no_steeper(Telling([0, 4, 0])), told ^ Telling([1, 2, 1]), told.moved(0, 2).entries, told < Telling([3, 2, 0])]
[True, 4, (2, 1, 1), True]

>>> from nightsoff.wants import Wants
>>> from nightsoff.houses import House
>>> from nightsoff.plans import Plan, plan_faults
>>> house = House(Wants([2, 1, 2]), [1, 1, 2], rest=1)
>>> plan_faults(house, Plan([[0, 1], [1], [0, 2]]))
[('rest', 2, 1, 1)]

>>> from nightsoff.wants import Wants
>>> from nightsoff.houses import House
>>> from nightsoff.plans import Plan, counts_of
>>> counts_of(House(Wants([2, 1, 2]), [1, 1, 2]), Plan([[0, 1], [2], [0, 1]]))
[2, 2, 1]

>>> from nightsoff.wants import Wants
>>> from nightsoff.houses import House
>>> from nightsoff.drafts import Draft
>>> draft = Draft(House(Wants([2, 1, 2]), [1, 1, 2], rest=1))
>>> draft.put(1, 1)
>>> draft.put(1, 0)
>>> [draft[1], draft.placed, draft.vacant]
[(0, 1), 2, 3]

>>> from nightsoff.wants import Wants
>>> from nightsoff.houses import House
>>> from nightsoff.drafts import Draft
>>> draft = Draft(House(Wants([2, 1, 2]), [1, 1, 2], rest=1))
>>> draft.put(3, 1)
>>> draft.put(2, 1)
raises TooSoon(2, 1, 3)

>>> from nightsoff.wants import Wants
>>> from nightsoff.houses import House
>>> from nightsoff.firsts import first_choice
>>> from nightsoff.cheapest import cover_of
>>> house = House.all_there(Wants([1, 1, 1, 1]), 3, rest=2)
>>> [first_choice(house, [0]), first_choice(house, [0, 2]), list(cover_of(house, [0, 2]))]
[[1, 0, 0, 1], [1, 1, 0, 1], [3]]

>>> from nightsoff.wants import Wants
>>> from nightsoff.houses import House
>>> from nightsoff.settle import settle
>>> done = settle(House.all_there(Wants([1, 1, 1, 1]), 3, rest=2), [3, 1, 0])
>>> [done.plan.rows, done.strangers, done.unkept, done.missing, list(done.cover)]
[((0,), (1,), (), (0,)), (0, 0, 1, 0), (1, 0, 0), 1, [3]]

>>> from nightsoff.wants import Wants
>>> from nightsoff.houses import House
>>> from nightsoff.judge import judge
>>> house = House(Wants([2, 1, 2]), [1, 1, 2], rest=1)
>>> yes = judge(house, [2, 2, 1])
>>> no = judge(house, [2, 1, 2])
>>> [yes.word, yes.plan.rows, no.word, list(no.cover)]
['true', ((0, 1), (2,), (0, 1)), 'stretches', [1, 3]]

>>> from nightsoff.wants import Wants
>>> from nightsoff.houses import House
>>> from nightsoff.bounds import Bounds
>>> from nightsoff.worlds import group_most
>>> number, world, cover = group_most(House.all_there(Wants([1, 1, 1, 1]), 3, rest=2), Bounds.up_to(3, 4), [1, 0])
>>> [number, world, list(cover)]
[3, [2, 1, 1], [3]]

>>> from nightsoff.wants import Wants
>>> from nightsoff.houses import House
>>> from nightsoff.bounds import Bounds
>>> from nightsoff.forms import Form
>>> from nightsoff.answers import answer
>>> house = House.all_there(Wants([1, 1, 1, 1]), 3, rest=2)
>>> reply = answer(house, Bounds.up_to(3, 4), 2 * Form.of(3, 0) + Form.of(3, 1), 5)
>>> [reply.word, reply.least.number, reply.least.world, reply.most.number, reply.most.world]
['open', 3, [1, 1, 2], 5, [2, 1, 1]]

>>> from nightsoff.wants import Wants
>>> from nightsoff.rows import first_row, plain_row, row_allows, row_witness
>>> run = Wants([1, 1, 1, 1])
>>> [first_row(run, 2), plain_row(run, 2), row_allows([2, 1, 1], [1, 2, 1]), row_witness([2, 1, 1], [2, 0, 2])]
[[2, 1, 1], [3, 1], True, ('most', 2, [0, 2])]

>>> from nightsoff.wants import Wants
>>> from nightsoff.spans import Span
>>> half = Span(Wants([1, 1]), 2)
>>> [half.held(1, 0, 0), half.held(0, 1, 1), half.held(0, 2, 1), half.held(0, 0, 1), half.joined(half).row()]
[1, 2, 1, None, [3, 1]]

>>> from nightsoff.alike import lets_all, parting, both_rows, either_rows
>>> [lets_all([2, 2], [3, 1]), parting([3, 1], [2, 2]), both_rows([3, 3], [4, 1, 1]), either_rows([3, 3], [4, 1, 1])]
[True, [2, 2], [4, 2], [3, 2, 1]]

>>> from nightsoff.wants import Wants
>>> from nightsoff.houses import House
>>> from nightsoff.latest import longest_rest
>>> rest, plan, cover = longest_rest(House.all_there(Wants([1, 1, 1, 1]), 3, rest=0), [2, 1, 1])
>>> [rest, plan.rows, list(cover)]
[2, ((0,), (1,), (2,), (0,)), [4]]

>>> from nightsoff.wants import Wants
>>> from nightsoff.houses import House
>>> from nightsoff.extra import extra_wants
>>> number, cover = extra_wants(House.all_there(Wants([1, 0, 1]), 2, rest=1), [2, 1], 2)
>>> [number, list(cover)]
[1, []]

>>> from nightsoff.wants import Wants
>>> from nightsoff.houses import House
>>> from nightsoff.nearest import nearest
>>> found = nearest(House(Wants([2, 1, 2]), [1, 1, 2], rest=1), [2, 1, 2])
>>> [found.distance, found.numbers, list(found.cover)]
[2, [2, 2, 1], [1, 3]]

>>> from nightsoff.wants import Wants
>>> from nightsoff.houses import House
>>> from nightsoff.walks import count_tellings, nth_telling, rank_telling
>>> house = House.all_there(Wants([1, 1, 1, 1]), 3, rest=2)
>>> [count_tellings(house), nth_telling(house, 1).entries, rank_telling(house, [2, 1, 1])]
[3, (1, 2, 1), 2]

>>> from nightsoff.wants import Wants
>>> from nightsoff.houses import House
>>> from nightsoff.evenness import evenest
>>> even = evenest(House(Wants([1, 1, 1, 1, 1, 1]), [1, 1, 6], rest=1))
>>> level = even.levels[0]
>>> [even.telling.entries, len(even.levels), level[0], level[1], list(level[2])]
[(3, 2, 1), 1, 2, [2], [1, 3, 5]]

>>> from nightsoff.wants import Wants
>>> from nightsoff.houses import House
>>> from nightsoff.routes import route
>>> route(House.all_there(Wants([1, 1, 1]), 3, rest=0), [3, 0, 0], [1, 1, 1])
[(0, 1, [2, 1, 0]), (0, 2, [1, 1, 1])]

>>> from nightsoff.wants import Wants
>>> from nightsoff.houses import House
>>> from nightsoff.surely import tight_covers, settled
>>> house = House.all_there(Wants([1, 1, 1, 1]), 3, rest=2)
>>> found = tight_covers(house, [2, 1, 1])
>>> [len(found), list(found[1]), list(found[2]), settled(house, [2, 1, 1], found[2])]
[4, [1, 4], [3], [(1, 1, True), (0, 1, True), (0, 1, True)]]

>>> from nightsoff.wants import Wants
>>> from nightsoff.weeks import Week, kept_after
>>> week = Week(Wants([1, 0, 1]), 1)
>>> [kept_after(week, 1, 1), kept_after(week, 1, 2), kept_after(week, 1, 10 ** 18)]
[2, 3, 1000000000000000001]

>>> from nightsoff.wants import Wants
>>> from nightsoff.exact import Exact
>>> from nightsoff.weeks import Week
>>> from nightsoff.lasting import lasting, numbers_after
>>> shares = [Exact(3, 2), Exact(1), Exact(1, 2)]
>>> found = lasting(Week(Wants([1, 1, 1]), 2), shares)
>>> [found.word, found.persons, found.weeks, numbers_after(shares, 2), numbers_after(shares, 3)]
['many', [0], 2, [3, 2, 1], None]

>>> from nightsoff.wants import Wants
>>> from nightsoff.houses import House
>>> from nightsoff.tonight import thresholds, tonight_fault, must_watch, sparing_set
>>> house = House.all_there(Wants([1, 1, 1, 1]), 3, rest=2)
>>> [thresholds(house, [1, 2, 1]), tonight_fault(house, [1, 2, 1], [0]), must_watch(house, [1, 2, 1]), sparing_set(house, [1, 2, 1])]
[[1, 1], ('level', 1, 0, 1), [1], [1]]

>>> from nightsoff.wants import Wants
>>> from nightsoff.houses import House
>>> from nightsoff.desks import Desk
>>> desk = Desk(House.all_there(Wants([1, 1, 1, 1]), 3, rest=2), [1, 2, 1])
>>> people = desk.choose()
>>> desk.watch(people)
>>> [people, desk.now, desk.left, desk.free_tonight(), desk.outlook().rows]
[[1], 2, (1, 1, 1), [0, 2], ((1,), (0,), (2,), (1,))]

>>> from nightsoff.wants import Wants
>>> from nightsoff.houses import House
>>> from nightsoff.desks import Desk
>>> desk = Desk(House.all_there(Wants([1, 1, 1, 1]), 3, rest=2), [1, 2, 1])
>>> desk.watch([0])
raises NotRight(1)

>>> from nightsoff.books import Book
>>> book = Book()
>>> book.set_nights(1, 1, 1, 1)
>>> book.all_of([("rest", 2), ("person", "cid", 1), ("person", "ann", 1), ("person", "bob", 1)])
>>> book.tell(ann=2)
>>> [book.names(), book.spread("bob"), book.ask(2, "bob", "cid").word, book.done]
[['ann', 'bob', 'cid'], (1, 1), 'yes', 6]

>>> from nightsoff.reader import read_line
>>> read_line("told ann 1 to 3")
('told', 'ann', 1, 3)

>>> from nightsoff.reader import read_line
>>> read_line("told ann 1 to", 7)
raises BadLine(7, 5, 'short')

>>> from nightsoff.tables import table_lines
>>> table_lines(["night", "want"], [["1", "2"], ["10", "0"]], "rl")
['night  want', '-----  ----', '    1  2', '   10  0']

>>> from nightsoff.runner import Runner
>>> runner = Runner()
>>> runner.run("nights 2 1 2\nperson ann\nperson bob\nperson cid from 2\ntold ann 2\nask world\nask least bob\nask atleast 4 ann bob")
['6: world 2 2 1', '7: 2', '8: yes']
'''


def result_of(lines):
    """Run the lines of an example and write its last line as the document does."""
    names = {}
    for line in lines[:-1]:
        exec(line, names)
    try:
        return repr(eval(lines[-1], names))
    except errors.NightsError as error:
        fields = ", ".join(repr(field) for field in vars(error).values())
        return f"raises {type(error).__name__}({fields})"


class Examples(unittest.TestCase):
    def test_examples(self):
        for example in EXAMPLES.strip().split("\n\n"):
            *lines, wanted = example.split("\n")
            with self.subTest(example):
                self.assertTrue(all(line.startswith(">>> ") for line in lines))
                self.assertEqual(result_of([line[4:] for line in lines]), wanted)
