"""Helpers: people that are lacking to watch a house (point 45)."""

from nightsoff.errors import NotWatched


def helpers_needed(house):
    """Return the fewest helpers that are needed, and an end that needs them."""
    lacks = _lacks(house)
    most = max(lacks, default=0)
    if most <= 0:
        return (0, None)
    return (most, lacks.index(most) + 1)


def check_watched(house):
    """Raise NotWatched with the least end whose stretch wants too much."""
    for end, lack in enumerate(_lacks(house), start=1):
        if lack > 0:
            raise NotWatched(end)


def _lacks(house):
    """List for each end how much more its stretch wants than people have come."""
    lacks = []
    for end in range(1, house.nights + 1):
        first, _ = house.stretch(end)
        wanted = sum([house.wants[night] for night in range(first, end + 1)])
        lacks.append(wanted - len(house.here(end)))
    return lacks
