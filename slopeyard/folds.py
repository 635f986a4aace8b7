"""Walls folded along ways: what is left of their states when all along a way is taken as one."""

from slopeyard.corners import ENDLESS, Corner
from slopeyard.thin import needed, tightest
from slopeyard.ties import solved
from slopeyard.vectors import blended, dot, shortened


def inner(corner):
    """The places of the walls that all states meet, and a point, with its part, within all others.

    The corner is settled, and it moves.
    """
    points = [(corner.point, corner.part)]
    rays = []
    loose = [gap < 0 for gap in corner.gaps]
    flat = []
    for place, wall in enumerate(corner.walls):
        if loose[place]:
            continue
        if corner.climb([-weight for weight in wall[:-1]]) == ENDLESS:
            rays.append(corner.ray)
            loose = [was or dot(other, corner.ray) < 0 for was, other in zip(loose, corner.walls)]
        elif corner.gaps[place] < 0:
            points.append((corner.point, corner.part))
            loose = [was or gap < 0 for was, gap in zip(loose, corner.gaps)]
        else:
            flat.append(place)
    middle, part = _middle(points, rays)
    return flat, middle, part


def _middle(points, rays):
    """The middle of the points, moved along all the rays: a point and its part."""
    whole, part = points[0]
    for point, its_part in points[1:]:
        numbers = shortened(blended(whole, its_part, point, -part) + [part * its_part])
        whole, part = numbers[:-1], numbers[-1]
    part = part * len(points)
    for ray in rays:
        whole = blended(whole, 1, ray, -part)
    return whole, part


def folded(walls, ways):
    """The walls, over all levels still, that are left when all along each of the ways is taken as one.

    All the walls are needed, and they have an inner state. Each wall that is left is known by its face: the walls
    that all states meet in which it is met, as the bits of a number. Two such faces have a rim in common where the
    walls meet in what is seen; so the first walls alone tell of the rims, however many walls there are by then.
    """
    faces = [(wall, 1 << place) for place, wall in enumerate(walls)]
    for done in range(len(ways)):
        faces = _folded_once(walls, faces, _slanting(faces, ways[done:]))
    return [wall for wall, _ in faces]


def _slanting(faces, ways):
    """A way made up of the first one and the others, along which no wall goes that doesn't go along all of them."""
    leaning = [wall for wall, _ in faces if any([dot(wall, way) for way in ways])]
    times = 0
    while True:
        slanting = ways[0]
        part = 1
        for way in ways[1:]:
            part = part * times
            slanting = blended(slanting, 1, way, -part)
        if all([dot(wall, slanting) for wall in leaning]):
            return slanting
        times += 1


def _folded_once(walls, faces, way):
    """The walls that go along the way, and one for each rim between one that faces it and one that faces away."""
    leans = [(dot(wall, way), wall, mark) for wall, mark in faces]
    above = [entry for entry in leans if entry[0] > 0]
    below = [entry for entry in leans if entry[0] < 0]
    born = [(wall, mark) for lean, wall, mark in leans if lean == 0]
    if len(above) > len(below):
        above, below = below, above
    marks = [mark for _, _, mark in below]
    for lean, wall, mark in above:
        for rim in _rims(walls, mark, marks):
            for deep, other, its_mark in below:
                if its_mark & rim == its_mark:
                    numbers = blended(wall, abs(deep), other, -abs(lean))
                    born.append((shortened(numbers), rim))
    return born


def _rims(walls, mark, marks):
    """The marks of the rims that the face of this mark has in common with one of those of the marks."""
    ties = [wall for place, wall in enumerate(walls) if mark >> place & 1]
    _, flats, places, _ = solved(ties, walls, list(range(len(walls[0]) - 1)))
    known = {}
    for place, numbers in enumerate(flats):
        flat = (*[numbers[level] for level in places], numbers[-1])
        known[flat] = known.get(flat, mark) | 1 << place
    few = tightest(list(known))
    asked = [spot for spot, flat in enumerate(few) if any([known[flat] & one == one for one in marks])]
    if not asked:
        return []
    corner = Corner(len(places), few)
    corner.settle()
    _, inside, part = inner(corner)
    return [known[few[spot]] for spot in needed(few, asked, inside, part)]
