"""Plans of watches, their faults and their counts (points 12 and 13)."""

from nightsoff.checks import check_night
from nightsoff.errors import BadPlan


class Plan:
    """A row of persons for each night. It is not checked when it is made."""

    def __init__(self, rows):
        self.rows = tuple([tuple(row) for row in rows])

    def __len__(self):
        return len(self.rows)

    def __iter__(self):
        return iter(self.rows)

    def __getitem__(self, at):
        check_night(at, len(self.rows))
        return self.rows[at - 1]

    def __neg__(self):
        return Plan(self.rows[::-1])

    def __add__(self, other):
        return Plan(self.rows + other.rows)

    def nights_of(self, person):
        """List the nights on which that person watches."""
        return [night for night, row in enumerate(self.rows, start=1) if person in row]


def plan_faults(house, plan, *, short=False):
    """List the faults of a plan in a house, as tuples."""
    if len(plan) != house.nights:
        return [("length", len(plan), house.nights)]
    faults = []
    # For each person the latest night so far with the person in its row, or 0.
    latest = [0] * house.people
    for night, row in enumerate(plan.rows, start=1):
        for entry in row:
            if not 0 <= entry < house.people:
                faults.append(("stranger", night, entry))
            elif latest[entry] == night:
                faults.append(("twice", night, entry))
            else:
                faults.extend(_watch_faults(house, night, entry, latest[entry]))
                latest[entry] = night
        found = latest.count(night)
        wanted = house.wants[night]
        if found > wanted or (found < wanted and not short):
            faults.append(("count", night, found, wanted))
    return faults


def _watch_faults(house, night, person, earlier):
    """List the faults of one watch; `earlier` is the watch before it, or 0."""
    faults = []
    if night < house.comings[person]:
        faults.append(("early", night, person))
    if earlier > 0 and night - earlier <= house.rest:
        faults.append(("rest", night, person, earlier))
    return faults


def counts_of(house, plan):
    """List for each person of the house the number of rows with the person."""
    return [len(plan.nights_of(person)) for person in range(house.people)]


def free_people(house, rows, night):
    """List who has come by that night and is rested, given the rows before it."""
    tiring = rows[max(0, night - 1 - house.rest):night - 1]
    return [person for person in house.here(night)
            if not any([person in row for row in tiring])]


def walk_plan(house, plan, *, short=False):
    """Yield for each night the night, the free people and the row."""
    faults = plan_faults(house, plan, short=short)
    if faults:
        raise BadPlan(faults[0])
    for night, row in enumerate(plan.rows, start=1):
        yield (night, free_people(house, plan.rows, night), row)
