"""What the parts of the program promise of each other, on one house at a time."""

from nightsoff.books import Book
from nightsoff.bounds import Bounds
from nightsoff.compare import can_be_watched, compare
from nightsoff.cheapest import cover_of
from nightsoff.covers import bound_of
from nightsoff.desks import Desk
from nightsoff.evenness import evenest
from nightsoff.extra import extra_wants
from nightsoff.firsts import most_of
from nightsoff.helpers import helpers_needed
from nightsoff.houses import House
from nightsoff.judge import can_be_true, greatest_excess, judge
from nightsoff.latest import latest_coming, longest_rest
from nightsoff.leavers import LeavingHouse, judge_leaving
from nightsoff.nearest import nearest
from nightsoff.orders import order_counts
from nightsoff.plans import counts_of, plan_faults
from nightsoff.printer import print_script
from nightsoff.routes import route
from nightsoff.rowcounts import row_count
from nightsoff.rows import first_row, plain_row, row_allows, turned
from nightsoff.runner import Runner
from nightsoff.sets import refusing_set, set_by_set
from nightsoff.settle import settle
from nightsoff.slips import one_slip, two_slips
from nightsoff.spans import Span
from nightsoff.surely import tight_covers
from nightsoff.tellings import Telling
from nightsoff.tonight import after_tonight, may_watch, must_watch, sparing_set, tonight_fault
from nightsoff.walks import count_tellings, nth_telling, rank_telling, walk_tellings
from nightsoff.wants import Wants
from nightsoff.weeks import Week, kept_after
from nightsoff.worlds import find_world, group_least, group_most, has_world, raised
from tests.search import Case, all_told, some_houses, subsets, watched_houses

HOUSES = some_houses(30, 701) + watched_houses(30, 702)


def name_of(person):
    return "abc"[person]


def facts_of(house):
    """The facts from which a book or a script comes to that house."""
    people = [("person", name_of(person), coming) for person, coming in enumerate(house.comings)]
    return [("nights", house.wants.numbers), ("rest", house.rest), *people]


def told_facts(told):
    return [("told", name_of(person), number, number) for person, number in enumerate(told)]


class OneHouse(Case):
    def test_can_these_numbers_be_true(self):
        words = []
        for house in HOUSES:
            tellings = [list(telling) for telling in walk_tellings(house)]
            for told in all_told(house):
                true = told in tellings
                words.append(true)
                kept = settle(house, told).missing == 0
                whole = sum(told) == house.whole
                self.assertIs(true, kept and whole)
                self.assertIs(can_be_true(house, told), true)
                self.assertIs(refusing_set(house, told) is None, kept)
                self.assertIs(set_by_set(house, told) is None, kept)
                self.assertIs(greatest_excess(house, told)[0] == 0, kept)
                self.assertIs(has_world(house, Bounds.exact(told)), true)
                self.assertIs(Desk(house, told).still_kept(), true)
                if house.nights > 0 and whole:
                    self.assertIs(extra_wants(house, told, 1)[0] == 0, true)
                if whole:
                    rest = longest_rest(house, told)
                    self.assertIs(rest is not None and rest[0] >= min(house.rest, house.nights), true)
                    for person in range(house.people):
                        coming = latest_coming(house, told, person)
                        self.assertIs(coming is not None and coming[0] >= house.comings[person], true)
                if can_be_watched(house):
                    self.assertIs(nearest(house, told).distance == 0, true)
        self.assertGreater(words.count(True), 50)

    def test_what_a_true_telling_allows(self):
        for house in HOUSES:
            tellings = list(walk_tellings(house))
            self.assertEqual(count_tellings(house), len(tellings))
            for index, telling in enumerate(tellings):
                told = list(telling)
                self.assertEqual([rank_telling(house, told), nth_telling(house, index).entries], [index, telling.entries])
                self.assertTrue(tight_covers(house, told))
                self.assertEqual(find_world(house, Bounds.exact(told)), told)
                moves = route(house, told, tellings[-1])
                self.assertEqual(2 * len(moves), telling ^ tellings[-1])
                self.assertTrue(evenest(house).telling.no_steeper(telling))
                wrong = [told[0] + 1, *told[1:]] if told else []
                self.assertEqual((0, told[0]) in one_slip(house, wrong) if told else True, True)
                moved = [(giver, taker) for giver, taker, least, _ in two_slips(house, told) if least == 1]
                self.assertEqual(moved, [(giver, taker) for giver in range(house.people) for taker in range(house.people)
                                         if giver != taker and told[giver] > 0
                                         and telling.moved(giver, taker) in tellings])

    def test_groups_orders_and_bounds(self):
        for house in HOUSES:
            everybody = list(range(house.people))
            self.assertIs(can_be_watched(house), helpers_needed(house)[0] == 0)
            self.assertIs(can_be_watched(house), count_tellings(house) > 0)
            self.assertIsNone(compare(house, house))
            for people in subsets(everybody):
                self.assertEqual(bound_of(house, cover_of(house, people), people), most_of(house, people))
                order = people + [person for person in everybody if person not in people]
                counts = order_counts(house, order)
                self.assertEqual(sum(counts[person] for person in people), most_of(house, people))
                if can_be_watched(house):
                    bounds = Bounds.up_to(house.people, house.nights)
                    self.assertEqual(group_most(house, bounds, people)[0], most_of(house, people))
                    self.assertEqual(group_least(house, bounds, people)[0],
                                     min(sum(telling[person] for person in people) for telling in walk_tellings(house)))
                    self.assertEqual(raised(house, bounds, order), counts)

    def test_rows_spans_and_weeks(self):
        for house in HOUSES:
            run, rest, people = house.wants, house.rest, house.people
            house = House.all_there(run, people, rest=rest)
            row = first_row(run, rest)
            self.assertEqual(turned(row), plain_row(run, rest))
            self.assertEqual(Span(run, rest).row(), plain_row(run, rest))
            if house.people > 0:
                self.assertEqual(row_count(row, people), count_tellings(house))
            for told in all_told(house):
                self.assertIs(row_allows(row, told), can_be_true(house, told))
            if 0 < len(run) and rest <= 4:
                week = Week(run, rest)
                for count in range(people + 1):
                    self.assertEqual(kept_after(week, count, 1), most_of(house, list(range(count))))
                    self.assertEqual(kept_after(week, count, 1), sum(row[:count]))
            leaving = LeavingHouse(-run, [len(run)] * people, rest=rest)
            for telling in walk_tellings(house):
                self.assertTrue(judge_leaving(leaving, telling).holds)


class TonightAndTheDesk(Case):
    def test_the_desk_follows_the_house(self):
        for house in HOUSES:
            for telling in list(walk_tellings(house))[:4]:
                desk = Desk(house, telling)
                now, left = house, list(telling)
                self.assertEqual(desk.outlook().rows, judge(house, telling).plan.rows)
                while now.nights > 0:
                    people = sparing_set(now, left)
                    self.assertIsNone(tonight_fault(now, left, people))
                    self.assertTrue(all(person in people for person in must_watch(now, left)))
                    self.assertTrue(all(person in may_watch(now, left) for person in people))
                    desk.watch(people)
                    now, left = after_tonight(now, left, people)
                    ahead, numbers = desk.ahead()
                    self.assertEqual([ahead.wants.numbers, ahead.comings, ahead.rest, numbers],
                                     [now.wants.numbers, now.comings, now.rest, left])
                self.assertEqual(left, [0] * house.people)
                self.assertEqual(plan_faults(house, desk.rows_so_far()), [])
                self.assertEqual(counts_of(house, desk.rows_so_far()), list(telling))


class BookAndScript(Case):
    def test_the_book_and_the_script_tell_the_house(self):
        for house in HOUSES:
            for told in list(all_told(house))[::7]:
                verdict = judge(house, told)
                facts = facts_of(house) + told_facts(told)
                book = Book()
                book.all_of(facts)
                found = book.told_house()
                self.assertEqual([found.wants.numbers, found.comings, found.rest],
                                 [house.wants.numbers, house.comings, house.rest])
                self.assertIs(book.state_word() == "world", verdict.holds)
                runner = Runner()
                self.assertEqual(runner.run(print_script(facts)), [])
                self.assertEqual(runner.book.records(), book.records())
                asked, row = runner.run("ask world\nask row")
                self.assertEqual(row.split()[2:], [str(number) for number in plain_row(house.wants, house.rest)])
                if verdict.holds:
                    self.assertEqual(asked, " ".join(["1: world", *map(str, told)]))
                    self.lead(runner, house, told)
                else:
                    self.assertEqual(asked, "1: none " + book.state_word())
                    self.assertEqual(runner.run("desk"), ["1: refused"])

    def lead(self, runner, house, told):
        self.assertEqual(runner.run("desk\n" + "choose\n" * house.nights + "ask tonight"),
                         [f"{house.nights + 2}: over"])
        self.assertEqual(runner.desk.rows_so_far().rows, judge(house, told).plan.rows)
        self.assertEqual(runner.desk.left, (0,) * house.people)

    def test_spreads_over_all_tellings(self):
        for house in HOUSES:
            tellings = list(walk_tellings(house))
            book = Book()
            book.all_of(facts_of(house))
            self.assertIs(book.state_word() == "world", bool(tellings))
            for person in range(house.people if tellings else 0):
                numbers = [telling[person] for telling in tellings]
                self.assertEqual(book.spread(name_of(person)), (min(numbers), max(numbers)))


class OneExample(Case):
    """The house of the first pages, through every part."""

    def test_through_all_parts(self):
        run = Wants([1, 1, 1, 1])
        house = House.all_there(run, 3, rest=2)
        told = [2, 1, 1]
        self.assertEqual([telling.entries for telling in walk_tellings(house)], [(1, 1, 2), (1, 2, 1), (2, 1, 1)])
        self.assertEqual([evenest(house).telling.entries, nearest(house, [0, 0, 0]).numbers], [(2, 1, 1), told])
        self.assertEqual([judge(house, told).plan.rows, Desk(house, told).outlook().rows], [((0,), (1,), (2,), (0,))] * 2)
        self.assertEqual([first_row(run, 2), order_counts(house, [0, 1, 2]), plain_row(run, 2)], [told, told, [3, 1]])
        self.assertEqual(Telling(told).moved(0, 2), Telling([1, 1, 2]))
        output = Runner().run(print_script([*facts_of(house), *told_facts([2, 1, 1]), ("ask", "world"), ("ask", "plan"),
                                            ("desk",), ("choose",), ("ask", "tonight")]))
        self.assertEqual(output, ["9: world 2 1 1", "10: plan a b c a", "13: thresholds 1"])
