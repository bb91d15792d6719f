"""Houses that people leave, and their mirrors (point 27)."""

from nightsoff.checks import MOST_PEOPLE, check_count, check_rest
from nightsoff.errors import BadComing
from nightsoff.houses import House
from nightsoff.judge import Verdict, judge


class LeavingHouse:
    """A house in which everybody is there from night 1 and leaves later."""

    def __init__(self, wants, leavings, *, rest=1):
        check_count(len(leavings), MOST_PEOPLE)
        for person, leaving in enumerate(leavings):
            if not 0 <= leaving <= len(wants):
                raise BadComing(person, leaving)
        check_rest(rest)
        self.wants = wants
        self.leavings = tuple(leavings)
        self.rest = rest

    def mirror(self):
        """Return the house in which the nights go by in reverse order."""
        comings = [len(self.wants) + 1 - leaving for leaving in self.leavings]
        return House(-self.wants, comings, rest=self.rest)


class LeavingVerdict(Verdict):
    """A verdict whose cover is the cover of the mirror."""

    def __init__(self, word, total, plan, cover, starts):
        super().__init__(word, total, plan, cover)
        self.starts = starts


def judge_leaving(house, told):
    """Decide whether told numbers can be true in a leaving house."""
    verdict = judge(house.mirror(), told)
    plan = None if verdict.plan is None else -verdict.plan
    starts = None
    if verdict.cover is not None:
        starts = tuple(sorted([len(house.wants) + 1 - end for end in verdict.cover]))
    return LeavingVerdict(verdict.word, verdict.total, plan, verdict.cover, starts)
