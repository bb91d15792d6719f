"""Covers: ends of stretches that do not overlap (point 17)."""

from nightsoff.checks import check_people, check_person
from nightsoff.errors import BadCover


class Cover:
    """A sequence of ends. It is not checked when it is made."""

    def __init__(self, ends):
        self.ends = tuple(ends)

    def __len__(self):
        return len(self.ends)

    def __iter__(self):
        return iter(self.ends)

    def __contains__(self, x):
        return x in self.ends


def most_stretches(house):
    """Return the greatest number of ends of a cover that fits."""
    return (house.nights + house.rest) // (house.rest + 1)


def cover_fault(house, cover):
    """Return the first fault of a cover in a house, or None."""
    for index, end in enumerate(cover.ends):
        if not 1 <= end <= house.nights:
            return ("end", end)
        if index > 0 and end - cover.ends[index - 1] <= house.rest:
            return ("near", cover.ends[index - 1], end)
    return None


def check_cover(house, cover):
    fault = cover_fault(house, cover)
    if fault is not None:
        raise BadCover(fault)


def outside_nights(house, cover):
    """List the nights that lie in none of the stretches."""
    stretches = stretches_of(house, cover)
    return [night for night in range(1, house.nights + 1)
            if not any([first <= night <= end for first, end in stretches])]


def outside_wants(house, cover):
    """Return the sum of the wants of the nights outside."""
    return sum([house.wants[night] for night in outside_nights(house, cover)])


def stretches_of(house, cover):
    """List the first and the last night of each stretch."""
    check_cover(house, cover)
    return [house.stretch(end) for end in cover.ends]


def ends_from(house, cover, person):
    """Return the number of ends at or after the coming of the person."""
    check_cover(house, cover)
    check_person(house, person)
    return len([end for end in cover.ends if end >= house.comings[person]])


def bound_of(house, cover, people):
    """Return a number of watches that these people cannot exceed together."""
    outside = outside_wants(house, cover)
    check_people(house, people)
    return outside + sum([ends_from(house, cover, person) for person in people])
