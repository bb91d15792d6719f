"""Large houses, within the conditions of use, are answered without delay."""

import time
import unittest

from nightsoff.alike import both_rows, either_rows, lets_all, parting
from nightsoff.answers import answer, form_least, form_most
from nightsoff.books import Book
from nightsoff.bounds import Bounds
from nightsoff.cheapest import cheapest, cover_of, price_of
from nightsoff.compare import can_be_watched, compare
from nightsoff.covers import (
    Cover, bound_of, cover_fault, ends_from, most_stretches, outside_nights, stretches_of)
from nightsoff.desks import Desk
from nightsoff.drafts import Draft
from nightsoff.evenness import evenest
from nightsoff.exact import Exact
from nightsoff.extra import extra_wants
from nightsoff.firsts import first_choice, growth, most_of, room_left
from nightsoff.forms import Form
from nightsoff.helpers import helpers_needed
from nightsoff.houses import House
from nightsoff.judge import can_be_true, excess_of, greatest_excess, judge
from nightsoff.lasting import lasting, numbers_after
from nightsoff.latest import latest_coming, longest_rest
from nightsoff.leavers import LeavingHouse, judge_leaving
from nightsoff.nearest import nearest
from nightsoff.orders import one_after_another, order_counts
from nightsoff.plans import counts_of, plan_faults, walk_plan
from nightsoff.printer import print_script
from nightsoff.rates import rate_of
from nightsoff.reader import read_script
from nightsoff.routes import route
from nightsoff.rowcounts import row_count
from nightsoff.rows import first_row, plain_row, row_allows, row_witness, turned
from nightsoff.runner import Runner
from nightsoff.sets import refusing_set
from nightsoff.settle import settle
from nightsoff.slips import one_slip, two_slips
from nightsoff.spans import Span
from nightsoff.surely import settled, tight_covers
from nightsoff.tellings import LIMIT, Telling
from nightsoff.tables import table_lines
from nightsoff.tonight import after_tonight, may_watch, must_watch, sparing_set, thresholds, tonight_fault
from nightsoff.walks import count_tellings, nth_telling, rank_telling, walk_tellings
from nightsoff.wants import Wants
from nightsoff.weeks import Week, kept_after
from nightsoff.worlds import find_world, group_least, group_most, has_world, raised

EVERYBODY = list(range(30))


def fill(house, plan):
    """Write a plan into a draft, once by rows and once person by person."""
    draft = Draft(house)
    for night, row in enumerate(plan, start=1):
        draft[night] = list(row)
    for night, row in enumerate(plan, start=1):
        for person in row:
            draft.take(night, person)
            draft.put(night, person)
    return [draft.placed, draft.vacant, draft.as_plan()]


def questions(house):
    """Every function with such a house, by name."""
    plan = one_after_another(house, EVERYBODY)
    told = order_counts(house, EVERYBODY)
    cover = cover_of(house, EVERYBODY[:15])
    prices = [[count] * (most_stretches(house) + 1) for count in EVERYBODY]
    leavers = LeavingHouse(-house.wants, [61 - coming for coming in house.comings], rest=house.rest)
    return {
        "wants": lambda: [abs(-house.wants << 1 >> 1), list(house.wants + Wants([])), 1 * house.wants],
        "tellings": lambda: [Telling(told).no_steeper(Telling(told)), Telling(told) + Telling(told)],
        "House": lambda: [house.changed(), house.here(60), house.stretch(60), house.whole],
        "plan_faults": lambda: plan_faults(house, plan),
        "counts_of": lambda: counts_of(house, plan),
        "walk_plan": lambda: list(walk_plan(house, plan, short=True)),
        "Draft": lambda: fill(house, plan),
        "first_choice": lambda: first_choice(house, EVERYBODY),
        "room_left": lambda: room_left(house, EVERYBODY),
        "most_of": lambda: most_of(house, EVERYBODY),
        "growth": lambda: growth(house, EVERYBODY[1:], 0),
        "cover_fault": lambda: cover_fault(house, cover),
        "outside_nights": lambda: outside_nights(house, Cover([])) + outside_nights(house, cover),
        "stretches_of": lambda: stretches_of(house, cover),
        "ends_from": lambda: ends_from(house, cover, 0),
        "bound_of": lambda: bound_of(house, cover, EVERYBODY),
        "price_of": lambda: price_of(house, cover, prices),
        "cheapest": lambda: cheapest(house, prices),
        "cover_of": lambda: cover_of(house, EVERYBODY),
        "one_after_another": lambda: one_after_another(house, EVERYBODY),
        "order_counts": lambda: order_counts(house, EVERYBODY),
        "settle": lambda: settle(house, told),
        "judge": lambda: judge(house, told),
        "can_be_true": lambda: can_be_true(house, told),
        "excess_of": lambda: excess_of(house, cover, told),
        "greatest_excess": lambda: greatest_excess(house, told),
        "refusing_set": lambda: refusing_set(house, told),
        "judge_leaving": lambda: judge_leaving(leavers, told),
    }


def watched_house(nights, comings, want, rest):
    """A house that can be watched and wants as many people as that allows."""
    house = House(Wants([want] * nights), comings, rest=rest)
    return house.changed(wants=Wants(first_choice(house, list(range(house.people)))))


def half_told_questions(house):
    """Every function of half-told numbers, by name."""
    people = list(range(house.people))
    told = order_counts(house, people)
    bounds = Bounds([number // 2 for number in told], [LIMIT] * house.people)
    form = Form([7 * person % 5 - 2 for person in people])
    return {
        "has_world": lambda: has_world(house, bounds),
        "find_world": lambda: find_world(house, bounds),
        "raised": lambda: raised(house, bounds, people[::-1]),
        "group_most": lambda: group_most(house, bounds, people[::2]),
        "group_least": lambda: group_least(house, bounds, people[::2]),
        "form_most": lambda: form_most(house, bounds, form),
        "form_least": lambda: form_least(house, bounds, form),
        "answer": lambda: answer(house, bounds, form, 0),
    }


def change_questions(house):
    """Every function of least changes, by name."""
    told = order_counts(house, list(range(house.people)))
    return {
        "can_be_watched": lambda: can_be_watched(house),
        "helpers_needed": lambda: helpers_needed(house),
        "longest_rest": lambda: longest_rest(house, told),
        "latest_coming": lambda: latest_coming(house, told, 0),
        "extra_wants": lambda: extra_wants(house, [number + 1 for number in told], 12),
        "nearest": lambda: nearest(house, [LIMIT] + told[1:]),
    }


def walk_questions(house):
    told = order_counts(house, [3, 2, 1, 0])
    last = count_tellings(house) - 1
    return {
        "walk_tellings": lambda: list(walk_tellings(house)),
        "count_tellings": lambda: count_tellings(house),
        "nth_telling": lambda: nth_telling(house, last),
        "rank_telling": lambda: rank_telling(house, told),
    }


def even_questions(house):
    people = list(range(house.people))
    return {
        "evenest": lambda: evenest(house),
        "route": lambda: route(house, order_counts(house, people), order_counts(house, people[::-1])),
    }


def settled_questions(house):
    told = order_counts(house, list(range(house.people)))
    cover = tight_covers(house, told)[-1]
    return {
        "tight_covers": lambda: tight_covers(house, told),
        "settled": lambda: settled(house, told, cover),
    }


def week_questions(week, people):
    return {
        "kept_after": lambda: kept_after(week, people, 10 ** 18 - 1),
        "rate_of": lambda: rate_of(week, people),
    }


def share_questions(week):
    """Shares of six people with great bottoms, the first one just too great."""
    shares = [rate_of(week, 1).share + Exact(1, 60)] + [Exact(1, bottom) for bottom in (59, 58, 57, 53)]
    shares = shares + [Exact(abs(week.run)) - Exact.sum_of(shares)]
    return {
        "lasting": lambda: lasting(week, shares),
        "numbers_after": lambda: numbers_after(shares, 10 ** 18),
    }


def tonight_questions(house):
    told = order_counts(house, list(range(house.people)))
    people = sparing_set(house, told)
    return {
        "after_tonight": lambda: after_tonight(house, told, people),
        "thresholds": lambda: thresholds(house, told),
        "tonight_fault": lambda: tonight_fault(house, told, people),
        "must_watch": lambda: must_watch(house, told),
        "may_watch": lambda: may_watch(house, told),
        "sparing_set": lambda: sparing_set(house, told),
    }


def lead(desk):
    """Lead the desk to its end, asking everything on each night, and back again."""
    while desk.now <= desk.house_now().nights:
        desk.tonight(), desk.outlook(), desk.free_tonight(), desk.ahead(), desk.still_kept()
        desk.watch(desk.choose())
    while desk.done > 0:
        desk.undo()
    return desk.kept


def facts(house):
    """The deeds of a book that tell the house, with bounds that are wide."""
    told = order_counts(house, list(range(house.people)))
    people = [("person", f"p{person}", coming) for person, coming in enumerate(house.comings)]
    numbers = [("told", f"p{person}", number // 2, LIMIT) for person, number in enumerate(told)]
    return [("nights", house.wants.numbers), ("rest", house.rest), *people, *numbers]


def full_book(house):
    """A book of that house with 200 records."""
    book = Book()
    book.all_of(facts(house))
    while book.done < 200:
        book.do(("forget", f"p{book.done % house.people}"))
    return book


def book_questions(house):
    book = full_book(house)
    names = book.names()
    deeds = book.deeds()
    return {
        "Book": lambda: Book().all_of(deeds),
        "undo": lambda: [book.undo() for _ in range(200)] + [book.redo() for _ in range(200)],
        "house": lambda: [book.told_house(), book.told_bounds(), book.names(), book.records(), book.state_word()],
        "spread": lambda: [book.spread(name) for name in names],
        "ask": lambda: book.ask(20, *names[::2]),
    }


def long_scripts(house):
    """Scripts of 200 lines: one of each statement that asks again and again, and one of all."""
    start = facts(house)
    group = ("p0", "p3", "p4")
    asks = [("ask", "world"), ("ask", "row"), ("ask", "plan"), ("ask", "least", group), ("ask", "most", group),
            ("ask", "atleast", 20, group), ("show", "house"), ("show", "told")]
    desk = [("desk",), ("ask", "tonight")] + [("choose",)] * house.nights + [("undo",)] * house.nights + [("close",)]
    scripts = [start + [ask] * (200 - len(start)) for ask in asks]
    scripts.append((start + [("begin",)] + desk + [("redo",), ("end",)] + asks * 20)[:200])
    return scripts


def script_questions(house):
    questions = {"table_lines": lambda: table_lines(["a", "b"], [["x" * count, "y"] for count in range(200)], "cr")}
    for index, statements in enumerate(long_scripts(house)):
        text = print_script(statements)
        questions[f"read {index}"] = lambda text=text: read_script(text)
        questions[f"run {index}"] = lambda text=text: Runner().run(text)
    return questions


def slip_questions(house):
    told = order_counts(house, list(range(house.people)))
    return {
        "one_slip": lambda: one_slip(house, [told[0] + 1] + told[1:]),
        "two_slips": lambda: two_slips(house, told),
    }


def row_questions(run, rest):
    row = plain_row(run, rest)
    numbers = Telling([min(sum(row), LIMIT)] + [0] * 29)
    return {
        "first_row": lambda: first_row(run, rest),
        "plain_row": lambda: plain_row(run, rest),
        "turned": lambda: turned(row),
        "row_allows": lambda: row_allows(turned(row), numbers),
        "row_witness": lambda: row_witness(turned(row), numbers),
        "lets_all": lambda: lets_all(row, turned(row)),
        "parting": lambda: parting(turned(row), row),
        "both_rows": lambda: both_rows(row, turned(row)),
        "either_rows": lambda: either_rows(row, turned(row)),
    }


def span_questions(run, rest):
    span = Span(run, rest)
    return {
        "Span": lambda: Span(run, rest),
        "empty": lambda: Span.empty(rest),
        "held": lambda: span.held(rest, rest, 3),
        "joined": lambda: span.joined(span),
        "row": lambda: span.row(),
    }


class Delay(unittest.TestCase):
    def quick(self, questions, most=1, **said):
        for name, ask in questions.items():
            with self.subTest(name, **said):
                before = time.process_time()
                ask()
                self.assertLess(time.process_time() - before, most)

    def test_60_nights_and_30_people(self):
        for rest in (0, 1, 2, 7, 60):
            many = max(1, 30 // (rest + 1))
            wants = Wants([many - night % 2 for night in range(60)])
            house = House(wants, [1 + person // 8 * 5 for person in range(30)], rest=rest)
            self.quick(questions(house), rest=rest)

    def test_24_nights_and_10_people(self):
        for rest in (0, 1, 2, 5, 24, 60):
            for want in (2, 30):
                house = watched_house(24, [1 + person // 3 * 4 for person in range(10)], want, rest)
                self.quick(half_told_questions(house), want=want, rest=rest)
                self.quick(change_questions(house), want=want, rest=rest)

    def test_tonight_desks_and_books(self):
        for rest in (0, 1, 2, 5, 24, 60):
            for want in (2, 30):
                house = watched_house(24, [1] * 6 + [4, 9, 9, 20], want, rest)
                told = order_counts(house, list(range(10)))
                self.quick(tonight_questions(house), want=want, rest=rest)
                self.quick({"Desk": lambda: lead(Desk(house, told))}, want=want, rest=rest)
                self.quick(book_questions(house), want=want, rest=rest)

    def test_scripts_of_200_lines(self):
        for rest in (0, 2):
            house = watched_house(24, [1] * 6 + [4, 9, 9, 20], 30, rest)
            self.quick(script_questions(house), rest=rest, most=5)

    def test_16_nights_and_8_people(self):
        for rest in (0, 1, 2, 60):
            for want in (2, 30):
                house = watched_house(16, [1, 1, 1, 1, 4, 4, 6, 9], want, rest)
                self.quick({"compare": lambda: compare(house, house)}, want=want, rest=rest)

    def test_8_nights_and_4_people(self):
        for rest in (0, 1, 2, 60):
            for want in (1, 2, 30):
                house = watched_house(8, [1, 1, 1, 2], want, rest)
                self.quick(walk_questions(house), want=want, rest=rest)

    def test_12_nights_and_6_people(self):
        for rest in (0, 1, 2, 60):
            for want in (1, 2, 30):
                house = watched_house(12, [1, 1, 1, 2, 5, 8], want, rest)
                self.quick(even_questions(house), want=want, rest=rest)

    def test_settled_nights(self):
        for rest in (0, 1, 2, 60):
            for want in (1, 2, 30):
                house = watched_house(8, [1, 1, 1, 2], want, rest)
                self.quick(settled_questions(house), want=want, rest=rest)

    def test_weeks_of_14_nights(self):
        for rest in range(5):
            week = Week(Wants([30 - 2 * night for night in range(14)]), rest)
            for people in (1, 7, 10 ** 6):
                self.quick(week_questions(week, people), rest=rest, people=people)
            self.quick(share_questions(week), rest=rest)

    def test_counts_of_rows_with_a_sum_of_24(self):
        for row in ([24], [8, 8, 8], [12, 6, 3, 2, 1], [4] * 6, [1] * 24):
            self.quick({"row_count": lambda: row_count(row, 6)}, row=row)

    def test_16_nights_and_6_people(self):
        for rest in (0, 1, 2, 60):
            for want in (2, 30):
                house = watched_house(16, [1, 1, 1, 1, 4, 9], want, rest)
                self.quick(slip_questions(house), want=want, rest=rest)

    def test_rows_of_60_nights(self):
        for want in (1, 7, 30):
            for rest in (0, 1, 5, 60):
                self.quick(row_questions(Wants([want] * 60), rest), want=want, rest=rest)

    def test_spans_of_24_nights(self):
        for rest in range(4):
            self.quick(span_questions(Wants([30 - night for night in range(24)]), rest), rest=rest)
