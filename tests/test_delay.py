"""A house of 60 nights and 30 people is answered without delay."""

import time
import unittest

from nightsoff.cheapest import cheapest, cover_of, price_of
from nightsoff.covers import (
    Cover, bound_of, cover_fault, ends_from, most_stretches, outside_nights, stretches_of)
from nightsoff.drafts import Draft
from nightsoff.firsts import first_choice, growth, most_of, room_left
from nightsoff.houses import House
from nightsoff.judge import can_be_true, excess_of, greatest_excess, judge
from nightsoff.leavers import LeavingHouse, judge_leaving
from nightsoff.orders import one_after_another, order_counts
from nightsoff.plans import counts_of, plan_faults, walk_plan
from nightsoff.sets import refusing_set
from nightsoff.settle import settle
from nightsoff.tellings import Telling
from nightsoff.wants import Wants

EVERYBODY = list(range(30))


def fill(house, plan):
    """Write a plan into a draft, once by rows and once person by person."""
    draft = Draft(house)
    for night, row in enumerate(plan, start=1):
        draft[night] = list(row)
    for night, row in enumerate(plan, start=1):
        for person in row:
            draft.take(night, person)
            draft.put(night, person)
    return [draft.placed, draft.vacant, draft.as_plan()]


def questions(house):
    """Every function with such a house, by name."""
    plan = one_after_another(house, EVERYBODY)
    told = order_counts(house, EVERYBODY)
    cover = cover_of(house, EVERYBODY[:15])
    prices = [[count] * (most_stretches(house) + 1) for count in EVERYBODY]
    leavers = LeavingHouse(-house.wants, [61 - coming for coming in house.comings], rest=house.rest)
    return {
        "wants": lambda: [abs(-house.wants << 1 >> 1), list(house.wants + Wants([])), 1 * house.wants],
        "tellings": lambda: [Telling(told).no_steeper(Telling(told)), Telling(told) + Telling(told)],
        "House": lambda: [house.changed(), house.here(60), house.stretch(60), house.whole],
        "plan_faults": lambda: plan_faults(house, plan),
        "counts_of": lambda: counts_of(house, plan),
        "walk_plan": lambda: list(walk_plan(house, plan, short=True)),
        "Draft": lambda: fill(house, plan),
        "first_choice": lambda: first_choice(house, EVERYBODY),
        "room_left": lambda: room_left(house, EVERYBODY),
        "most_of": lambda: most_of(house, EVERYBODY),
        "growth": lambda: growth(house, EVERYBODY[1:], 0),
        "cover_fault": lambda: cover_fault(house, cover),
        "outside_nights": lambda: outside_nights(house, Cover([])) + outside_nights(house, cover),
        "stretches_of": lambda: stretches_of(house, cover),
        "ends_from": lambda: ends_from(house, cover, 0),
        "bound_of": lambda: bound_of(house, cover, EVERYBODY),
        "price_of": lambda: price_of(house, cover, prices),
        "cheapest": lambda: cheapest(house, prices),
        "cover_of": lambda: cover_of(house, EVERYBODY),
        "one_after_another": lambda: one_after_another(house, EVERYBODY),
        "order_counts": lambda: order_counts(house, EVERYBODY),
        "settle": lambda: settle(house, told),
        "judge": lambda: judge(house, told),
        "can_be_true": lambda: can_be_true(house, told),
        "excess_of": lambda: excess_of(house, cover, told),
        "greatest_excess": lambda: greatest_excess(house, told),
        "refusing_set": lambda: refusing_set(house, told),
        "judge_leaving": lambda: judge_leaving(leavers, told),
    }


class Delay(unittest.TestCase):
    def test_without_delay(self):
        for rest in (0, 1, 2, 7, 60):
            many = max(1, 30 // (rest + 1))
            wants = Wants([many - night % 2 for night in range(60)])
            house = House(wants, [1 + person // 8 * 5 for person in range(30)], rest=rest)
            for name, ask in questions(house).items():
                with self.subTest(name, rest=rest):
                    before = time.process_time()
                    ask()
                    self.assertLess(time.process_time() - before, 1)
