"""What of many walls is enough.

A wall is a row in one piece: its weights and behind them its bound with the other sign.
"""

from slopeyard.corners import ENDLESS, TOP, Corner
from slopeyard.vectors import common, dot

_WAITS = 0
_STAYS = 1
_GOES = 2


def tightest(walls):
    """The walls in plain form, of those that face the same way the tightest alone; none that face no way."""
    found = {}
    for wall in walls:
        share = common(wall[:-1])
        if share == 0:
            continue
        way = tuple([number // share for number in wall[:-1]])
        best = found.get(way)
        if best is None or wall[-1] * best[1] > best[0] * share:
            found[way] = (wall[-1], share)
    return [_plain(way, last, share) for way, (last, share) in found.items()]


def _plain(way, last, share):
    part = common([last, share])
    return tuple([number * (share // part) for number in way]) + (last // part,)


def thinned(walls, inside, part):
    """Those of the walls that are needed; the point, over its part, lies within all of them."""
    return [walls[place] for place in needed(walls, list(range(len(walls))), inside, part)]


def needed(walls, asked, inside, part):
    """Those of the asked places whose walls the others don't stand for.

    No two walls face the same way, and the point, over its part, lies within all of them. From it one looks at
    a state behind an asked wall: the wall that is met first on the way there is needed. So each search for such
    a state goes by the walls alone of which that is known.
    """
    spares = [-dot(wall, inside) - wall[-1] * part for wall in walls]
    fates = [_WAITS] * len(walls)
    corner = Corner(len(inside), [])
    for place in asked:
        wall = walls[place]
        while fates[place] == _WAITS:
            word = corner.climb(wall[:-1], -wall[-1])
            if word == TOP:
                fates[place] = _GOES
                continue
            point, its_part = (corner.ray, 0) if word == ENDLESS else (corner.point, corner.part)
            first = _first_met(walls, fates, spares, point, its_part)
            fates[first] = _STAYS
            corner.narrow(walls[first])
            corner.settle()
    return [place for place in asked if fates[place] == _STAYS]


def _first_met(walls, fates, spares, point, part):
    """The place of the first waiting wall on the way from the inner point to this one (part 0: along a ray)."""
    best = -1
    deepest = 0
    for place, wall in enumerate(walls):
        if fates[place] != _WAITS:
            continue
        deep = dot(wall, point) + wall[-1] * part
        if deep <= 0:
            continue
        ahead = spares[best] * deep - spares[place] * deepest if best >= 0 else 1
        if ahead > 0 or ahead == 0 and _leans_more(wall, deep, walls[best], deepest):
            best, deepest = place, deep
    return best


def _leans_more(wall, deep, other, deepest):
    """Whether of two walls that are met at once this one is met first from a point as near by as can be.

    That point is moved along the levels, along each by far less than along the one ahead of it.
    """
    for left, right in zip(wall[:-1], other[:-1]):
        if left * deepest != right * deep:
            return left * deepest > right * deep
    return False
