"""Houses: wants, comings and rest (points 8 and 9)."""

from nightsoff.checks import MOST_PEOPLE, check_count, check_night, check_not_negative, check_rest
from nightsoff.errors import BadComing


class House:
    """A house that is watched. It is never changed after it was made."""

    def __init__(self, wants, comings, *, rest=1):
        check_count(len(comings), MOST_PEOPLE)
        for person, coming in enumerate(comings):
            if not 1 <= coming <= len(wants) + 1:
                raise BadComing(person, coming)
        check_rest(rest)
        self.wants = wants
        self.comings = tuple(comings)
        self.rest = rest

    @classmethod
    def all_there(cls, wants, people, *, rest=1):
        # Checked ahead: the list of comings may be too long to be built.
        check_not_negative(people)
        check_count(people, MOST_PEOPLE)
        return cls(wants, [1] * people, rest=rest)

    @property
    def nights(self):
        return len(self.wants)

    @property
    def people(self):
        return len(self.comings)

    @property
    def whole(self):
        return abs(self.wants)

    def changed(self, *, wants=None, comings=None, rest=None):
        """Return a house with the given parts in place of the present ones."""
        new_wants = self.wants if wants is None else wants
        new_comings = self.comings if comings is None else comings
        new_rest = self.rest if rest is None else rest
        return House(new_wants, new_comings, rest=new_rest)

    def here(self, night):
        """List the persons who have come by that night."""
        check_night(night, self.nights)
        return [person for person, coming in enumerate(self.comings) if coming <= night]

    def stretch(self, end):
        """Return the first and the last night of the stretch of that end."""
        check_night(end, self.nights)
        return (max(1, end - self.rest), end)
