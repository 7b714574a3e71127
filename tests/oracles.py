"""Signs, stretches and pieces worked out with floats and angles, apart from the package; for small numbers alone."""

import cmath
import math

CLOSE = 1e-9
SAME_ANGLE = 1e-6


def cross(first, second):
    (a, b, c), (d, e, f) = first, second
    return (b * f - c * e, c * d - a * f, a * e - b * d)


def dot(first, second):
    return sum(number * beside for number, beside in zip(first, second))


def plane(row):
    q, l, m, k = row
    return (l, m, q - k), q + k


def point_of(place):
    """The point of a whole place on the skin."""
    p, s, r = place
    size = p * p + s * s + r * r
    return (2 * p * r / size, 2 * s * r / size, (p * p + s * s - r * r) / size)


def number_of(point):
    """The complex number of a point; None for the far place."""
    return None if 1 - point[2] < CLOSE else complex(point[0], point[1]) / (1 - point[2])


def side(row, point):
    normal, e = plane(row)
    value = (dot(normal, point) + e) / math.sqrt(dot(normal, normal))
    return 0 if abs(value) < CLOSE else (1 if value > 0 else -1)


def sides(rounds, point):
    return tuple(side(circle, point) for circle in rounds)


class Ringed:
    """The round of a row on the skin, told by angles."""

    def __init__(self, row):
        self.row = row
        normal, e = plane(row)
        size = dot(normal, normal)
        axis = tuple(number / math.sqrt(size) for number in normal)
        first = cross(axis, (1, 0, 0) if abs(axis[0]) < 0.6 else (0, 1, 0))
        first = tuple(number / math.sqrt(dot(first, first)) for number in first)
        self.first, self.second = first, cross(axis, first)
        self.middle = tuple(-e * number / size for number in normal)
        self.radius = math.sqrt((size - e * e) / size)

    def point(self, angle):
        c, s = self.radius * math.cos(angle), self.radius * math.sin(angle)
        return tuple(m + c * a + s * b for m, a, b in zip(self.middle, self.first, self.second))

    def angle_of(self, point):
        return math.atan2(dot(self.second, point), dot(self.first, point)) % (2 * math.pi)

    def meetings(self, other):
        """The angles at which another round meets this one."""
        normal, e = plane(other)
        still = dot(normal, self.middle) + e
        turn = complex(dot(normal, self.first), dot(normal, self.second)) * self.radius
        upper, lower = crossing_parts(self.row, other)
        if upper > lower:
            return []
        if upper == lower:
            return [(cmath.phase(turn) + (math.pi if still > 0 else 0)) % (2 * math.pi)]
        spread = math.acos(-still / abs(turn))
        return [(cmath.phase(turn) + spread) % (2 * math.pi), (cmath.phase(turn) - spread) % (2 * math.pi)]

    def angles(self, rounds):
        """All angles at which others meet this round, ascending, each once."""
        found = sorted(angle for other in rounds if other != self.row for angle in self.meetings(other))
        kept = [angle for at, angle in enumerate(found) if at == 0 or angle - found[at - 1] > SAME_ANGLE]
        if len(kept) > 1 and kept[0] + 2 * math.pi - kept[-1] < SAME_ANGLE:
            kept.pop()
        return kept

    def samples(self, rounds):
        """Points in order: each meeting and, behind it, one of its stretch; one point if nothing meets the round."""
        angles = self.angles(rounds)
        if not angles:
            return [self.point(1.0)]
        points = []
        for angle, after in zip(angles, angles[1:] + [angles[0] + 2 * math.pi]):
            points.extend([self.point(angle), self.point((angle + after) / 2)])
        return points


def product(row, other):
    return row[1] * other[1] + row[2] * other[2] - 2 * (row[0] * other[3] + other[0] * row[3])


def crossing_parts(row, other):
    return product(row, other) ** 2, product(row, row) * product(other, other)


def signs_that_occur(rounds):
    """All signs that occur, and for each whether a place other than the far one has them."""
    if not rounds:
        return {(): True}
    found = {}
    for at, circle in enumerate(rounds):
        points = Ringed(circle).samples(rounds)
        for index, point in enumerate(points):
            told = sides(rounds, point)
            assert told[at] == 0
            is_stretch = index % 2 == 1 or len(points) == 1
            found[told] = found.get(told, False) or is_stretch or number_of(point) is not None
            if is_stretch:
                for beside in (-1, 1):
                    found[told[:at] + (beside,) + told[at + 1:]] = True
    return found


def tree_has(tree, told):
    """Whether a lot has a place of which `told` has the signs by the rounds."""
    word, *more = tree
    if word == "all":
        return True
    if word in ("side", "rim"):
        row = more[0]
        value = told[row] if row in told else -told[tuple(-number for number in row)]
        return value == 0 or (word == "side" and value > 0)
    if word == "not":
        return not tree_has(more[0], told)
    held = [tree_has(part, told) for part in more[0]]
    return all(held) if word == "and" else any(held)


def lot_has(lot, point):
    return tree_has(lot.tree, dict(zip(lot.rounds, sides(lot.rounds, point))))


def runs(held):
    """How many runs of True a circle of them has; None if all are True."""
    if all(held):
        return None
    return sum(1 for at, is_held in enumerate(held) if is_held and not held[at - 1])


def stretches_by_angles(circle, lot):
    return runs([lot_has(lot, point) for point in Ringed(circle).samples(lot.rounds)])


def arc_angles(arc, circle):
    """Where an arc begins on its round, and by how much it goes on, above 0 in the direction n x u."""
    ringed = Ringed(circle)
    begin, over, end = [ringed.angle_of(point_of(place)) for place in arc]
    turn = (end - begin) % (2 * math.pi)
    if (over - begin) % (2 * math.pi) > turn:
        turn -= 2 * math.pi
    return ringed, begin, turn


def lies_on_arc(arc, circle, point):
    ringed, begin, turn = arc_angles(arc, circle)
    if side(circle, point) != 0:
        return False
    way = (ringed.angle_of(point) - begin) * (1 if turn > 0 else -1)
    return (way + SAME_ANGLE) % (2 * math.pi) <= abs(turn) + 2 * SAME_ANGLE


def arc_points(arc, circle, rounds):
    """Points of an arc in order: its ends, the meetings with rounds on it, and one between each two of these."""
    ringed, begin, turn = arc_angles(arc, circle)
    ways = {0.0, abs(turn)}
    for angle in ringed.angles(rounds):
        way = ((angle - begin) * (1 if turn > 0 else -1)) % (2 * math.pi)
        if SAME_ANGLE < way < abs(turn) - SAME_ANGLE:
            ways.add(way)
    ways = sorted(ways)
    ways.extend([(way + after) / 2 for way, after in zip(ways, ways[1:])])
    return [ringed.point(begin + (way if turn > 0 else -way)) for way in sorted(ways)]


def winding(curve, circles, place):
    """How often a closed curve that goes nowhere near the far place winds about a place that is not far."""
    centre = complex(place[0], place[1]) / place[2]
    turned, steps = 0.0, 600
    for arc, circle in zip(curve, circles):
        ringed, begin, turn = arc_angles(arc, circle)
        numbers = [number_of(ringed.point(begin + turn * step / steps)) - centre for step in range(steps + 1)]
        turned += sum(cmath.phase(after / number) for number, after in zip(numbers, numbers[1:]))
    return round(turned / (2 * math.pi))
