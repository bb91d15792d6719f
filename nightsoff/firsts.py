"""First choice and growth (points 15 and 16)."""

from nightsoff.checks import check_people, check_person
from nightsoff.errors import NamedTwice


def first_choice(house, people):
    """List how many of these people first choice takes on each night."""
    check_people(house, people)
    here = [len([person for person in people if house.comings[person] <= night])
            for night in range(1, house.nights + 1)]
    return choose_first(house.wants, house.rest, here)


def choose_first(wants, rest, here):
    """Do the same, given how many of these people have come by each night."""
    taken = []
    for want, count in zip(wants, here):
        resting = sum(taken[max(0, len(taken) - rest):])
        taken.append(min(want, count - resting))
    return taken


def room_left(house, people):
    """List what the first choice of these people leaves of each want."""
    return [want - taken for want, taken in zip(house.wants, first_choice(house, people))]


def most_of(house, people):
    """Return how many watches these people can keep together at most."""
    return sum(first_choice(house, people))


def growth(house, people, person):
    """List the nights on which the person adds a watch to first choice."""
    room = room_left(house, people)
    check_person(house, person)
    if person in people:
        raise NamedTwice(person)
    return nights_with_room(house, room, person)


def nights_with_room(house, room, person):
    """List the nights that the person takes where there is room, in order."""
    nights = []
    for night in range(house.comings[person], house.nights + 1):
        rested = not nights or night - nights[-1] > house.rest
        if rested and room[night - 1] > 0:
            nights.append(night)
    return nights
