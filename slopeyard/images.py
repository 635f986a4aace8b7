"""The walls of what sums set of the states of other walls.

Here numbers stand in one list: for what each sum sets, for each level, and last what is added. A tie is such
a list that comes to nought in each state; a wall comes to nought at most.
"""

from math import gcd

from slopeyard.corners import Corner
from slopeyard.folds import folded, inner
from slopeyard.hulls import seen
from slopeyard.thin import thinned, tightest
from slopeyard.ties import both_ways, solved, ways_along
from slopeyard.vectors import picked, spread

# Walls are folded along one way after another, or what is set of them is found from outside: this is sooner done
# where few levels are set, the fewer the more so, and where there are many ways or very many walls.
_FEW_LEVELS = 4
_MANY_WALLS = 100


def imaged(corner, sums):
    """The walls of the image by the sums of the states of a settled corner's walls."""
    many = len(sums)
    levels = list(range(many, many + corner.count))
    ties = _sum_ties(sums)
    walls = [[0] * many + list(wall) for wall in corner.walls]
    _, _, free, _ = solved(ties, [], levels)
    if free:
        ties, walls = _narrowed(corner.twin(), ties, walls, many)
    ties, walls, _, _ = solved(ties, walls, levels)
    ties, walls, kept, used = solved(ties, walls, list(range(many)))
    walls = tightest([(*wall[:many], wall[-1]) for wall in walls])
    return walls + both_ways([(*tie[:many], tie[-1]) for tie in used])


def _sum_ties(sums):
    ties = []
    for place, (weights, more) in enumerate(sums):
        tie = [0] * len(sums) + [-weight for weight in weights] + [-more]
        tie[place] = 1
        ties.append(tie)
    return ties


def _narrowed(corner, ties, walls, many):
    """Ties and walls that tell the same of what is set, with no level left in the walls that the ties don't tell.

    The corner, of the same walls, is settled, and it moves.
    """
    flat, inside, part = inner(corner)
    inside = [0] * many + inside
    width = len(inside)
    _, others, places, _ = solved([walls[place] for place in flat], ties + walls, list(range(many, width)))
    ties, walls = others[:many], tightest([picked(wall, places) for wall in others[many:]])
    left, _, free, _ = solved(ties, [], places)
    _, _, kept, _ = solved(left, [], list(range(many)))
    if not kept:
        return ties, []
    if len(kept) > 2 or not _from_outside(free, kept, walls):
        walls = thinned(walls, [inside[place] for place in places], part)
    if _from_outside(free, kept, walls):
        walls = _seen_from_outside(walls, [ties[place] for place in kept], kept, places)
        return ties, [spread(wall, kept, width) for wall in walls]
    ways = ways_along([picked(tie, places) for tie in ties], len(places))
    return ties, [spread(wall, places, width) for wall in folded(walls, ways)]


def _from_outside(free, kept, walls):
    if not free or len(kept) > _FEW_LEVELS:
        return False
    return len(free) >= len(kept) - 1 or len(walls) > _MANY_WALLS


def _seen_from_outside(walls, ties, kept, places):
    """The walls of what is kept, each of which has one of the ties by which the levels in the places set it."""
    den = 1
    for tie, place in zip(ties, kept):
        den = den * tie[place] // gcd(den, tie[place])
    sums = []
    for tie, place in zip(ties, kept):
        times = den // tie[place]
        sums.append(([-tie[level] * times for level in places], -tie[-1] * times))
    corner = Corner(len(places), walls)
    corner.settle()
    return seen(corner, sums, den)
