"""Fields: the signs that places have for some rounds; nothing is checked here."""

from drawarms.skin import FAR_SPOT, is_far_spot, met_spots, plane_of, side_behind, some_spot, spot_side

SIDES = (-1, 0, 1)


def planes_of(rounds):
    """The planes of some rounds."""
    return [plane_of(circle) for circle in rounds]


def signs_at(planes, spot):
    """The signs of all planes at a spot."""
    return tuple([spot_side(plane, spot) for plane in planes])


def signs_behind(planes, plane, spot, way):
    """The signs of all planes on the stretch of one plane's round that begins behind a spot of it."""
    return tuple([side_behind(plane, other, spot, way) for other in planes])


def with_side(signs, at, side):
    """The signs with another one at one index."""
    return signs[:at] + (side,) + signs[at + 1:]


def spots_on(plane, planes):
    """The spots at which a round meets others; one that several of these share is there once."""
    spots = []
    for at, other in enumerate(planes):
        if other != plane:
            for spot in list(met_spots(plane, other).values()):
                if all([before == plane or spot_side(before, spot) != 0 for before in planes[:at]]):
                    spots.append(spot)
    return spots


def starts_of(planes):
    """For each plane the spots behind which its stretches begin; any spot of it, if it meets no other one."""
    starts = [spots_on(plane, planes) for plane in planes]
    return [spots if spots else [some_spot(plane)] for plane, spots in zip(planes, starts)]


def stretches_of(planes):
    """All stretches: the index of the plane on whose round it lies, the spot at which it begins, and its signs."""
    found = []
    for at, spots in enumerate(starts_of(planes)):
        found.extend([(at, spot, signs_behind(planes, planes[at], spot, 1)) for spot in spots])
    return found


def signs_found(rounds):
    """All signs that occur, and for each whether a place other than the far one has them."""
    if not rounds:
        return {(): True}
    planes = planes_of(rounds)
    found = {}
    for at, spot, behind in stretches_of(planes):
        signs = signs_at(planes, spot)
        found[signs] = found.get(signs, False) or not is_far_spot(spot)
        for side in SIDES:
            found[with_side(behind, at, side)] = True
    return found


def signs_about_far(rounds):
    """The signs of the far place, and those of which it is a limit."""
    planes = planes_of(rounds)
    found = [signs_at(planes, FAR_SPOT)]
    for at, plane in enumerate(planes):
        if spot_side(plane, FAR_SPOT) == 0:
            for way in (-1, 1):
                behind = signs_behind(planes, plane, FAR_SPOT, way)
                found.extend([with_side(behind, at, side) for side in SIDES])
    return found
