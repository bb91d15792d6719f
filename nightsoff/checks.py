"""Checks of arguments that several modules share (points 4, 5 and 8)."""

from nightsoff.errors import BadNumber, BadRest, NamedTwice, NoNight, NoPerson, TooLong

MOST_PEOPLE = 30
GREATEST_REST = 60


def check_count(count, most):
    if count > most:
        raise TooLong(count)


def check_number(place, number, greatest):
    if not 0 <= number <= greatest:
        raise BadNumber(place, number)


def check_numbers(numbers, greatest):
    for index, number in enumerate(numbers):
        check_number(index, number, greatest)


def check_not_negative(number):
    if number < 0:
        raise BadNumber(0, number)


def check_rest(rest):
    if not 0 <= rest <= GREATEST_REST:
        raise BadRest(rest)


def check_night(night, nights):
    if not 1 <= night <= nights:
        raise NoNight(night)


def check_person(house, person):
    if not 0 <= person < house.people:
        raise NoPerson(person)


def check_people(house, people):
    """Check a list of persons of the house (point 5)."""
    for index, person in enumerate(people):
        check_person(house, person)
        if person in people[:index]:
            raise NamedTwice(person)
