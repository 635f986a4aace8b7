"""Walls without those that are needless."""

from slopeyard.corners import Corner
from slopeyard.folds import inner
from slopeyard.thin import thinned, tightest
from slopeyard.ties import both_ways, solved
from slopeyard.vectors import picked, spread


def slimmed(count, walls):
    """Walls, none needless, that are kept by the same states as these; some state keeps them all."""
    walls = tightest(walls)
    corner = Corner(count, walls)
    corner.settle()
    flat, inside, part = inner(corner)
    _, others, places, used = solved([walls[place] for place in flat], walls, list(range(count)))
    others = tightest([picked(wall, places) for wall in others])
    kept = thinned(others, [inside[place] for place in places], part)
    return [tuple(spread(wall, places, count)) for wall in kept] + both_ways([tuple(tie) for tie in used])
