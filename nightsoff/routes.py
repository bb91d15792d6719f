"""Routes from told to wished numbers, night by night (point 53)."""

from nightsoff.judge import can_be_true, true_numbers


def route(house, told, wished):
    """List the moves of single nights that lead from told to wished numbers."""
    numbers = true_numbers(house, told)
    goal = true_numbers(house, wished)
    moves = []
    while numbers != goal:
        giver, taker, numbers = _next_move(house, numbers, goal)
        moves.append((giver, taker, numbers))
    return moves


def _next_move(house, numbers, goal):
    """Return who gives to whom, and the numbers after that, as a new list."""
    giver = [person for person, number in enumerate(numbers) if number > goal[person]][0]
    # There always is a taker.
    taker = [person for person, number in enumerate(numbers)
             if number < goal[person] and can_be_true(house, _moved(numbers, giver, person))][0]
    return (giver, taker, _moved(numbers, giver, taker))


def _moved(numbers, giver, taker):
    moved = list(numbers)
    moved[giver] -= 1
    moved[taker] += 1
    return moved
