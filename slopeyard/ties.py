"""Ties: lists of numbers that come to nought, by which others are cleared in some places."""

from slopeyard.vectors import blended, shortened


def cleared(numbers, tie, place):
    """The numbers, brought to nought in the place by the tie, which isn't nought there; they keep their sense."""
    pivot, top = tie[place], numbers[place]
    if not top:
        return list(numbers)
    if pivot < 0:
        pivot, top = -pivot, -top
    return shortened(blended(numbers, pivot, tie, top))


def solved(ties, others, places):
    """Clears the places as far as the ties go: the ties left, the others, the places left, the ties used for it."""
    free = []
    used = []
    for place in places:
        spots = [(abs(tie[place]), spot) for spot, tie in enumerate(ties) if tie[place]]
        if not spots:
            free.append(place)
            continue
        # A small number to clear by keeps all the others small.
        _, spot = min(spots)
        by = ties[spot]
        ties = [cleared(tie, by, place) for tie in ties[:spot] + ties[spot + 1:]]
        others = [cleared(numbers, by, place) for numbers in others]
        used.append(by)
    return ties, others, free, used


def both_ways(ties):
    """The ties as walls: each as it is, and with the other sign."""
    walls = []
    for tie in ties:
        walls.append(tie)
        walls.append(tuple([-number for number in tie]))
    return walls


def ways_along(ties, length):
    """Ways of so many levels that change none of the ties, none of them made up of the others."""
    by_place = {}
    rows = [list(tie[:length]) for tie in ties]
    for place in range(length):
        spots = [(abs(row[place]), spot) for spot, row in enumerate(rows) if row[place]]
        if not spots:
            continue
        _, spot = min(spots)
        by = rows[spot]
        rows = [cleared(row, by, place) for row in rows[:spot] + rows[spot + 1:]]
        by_place = {old: cleared(row, by, place) for old, row in by_place.items()}
        by_place[place] = by
    return [_way(by_place, place, length) for place in range(length) if place not in by_place]


def _way(by_place, free, length):
    """The way that goes along the free level, and along those with a tie as this asks for."""
    whole = 1
    for place, row in by_place.items():
        if row[free]:
            whole = whole * row[place]
    way = [0] * length
    way[free] = whole
    for place, row in by_place.items():
        way[place] = -row[free] * whole // row[place]
    return shortened(way)
