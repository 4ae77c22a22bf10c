"""Shapes: which points and radii make one, and its one form."""

from copperrules.measure import box_distance, in_box, on_or_within, side_distance, sides_of, turn

FAR = 1000000000
FEWEST_CORNERS = 3
MOST_CORNERS = 32


# The serial number stands for the shape where measures are kept; no other shape of the board has it.
class Shape:
    def __init__(self, serial, points, radius):
        self.serial = serial
        self.radius = radius
        self.place(points)

    def place(self, points):
        self.points = points
        self.sides = sides_of(points)
        self.left = min([x for x, y in points])
        self.right = max([x for x, y in points])
        self.low = min([y for x, y in points])
        self.high = max([y for x, y in points])

    def is_bar(self):
        return len(self.points) == 2

    def is_polygon(self):
        return len(self.points) >= FEWEST_CORNERS

    def covers(self, x, y):
        return self.is_polygon() and in_box(x, y, self) and on_or_within(x, y, self.sides)


def in_range(points):
    return all([-FAR <= x <= FAR and -FAR <= y <= FAR for x, y in points])


def shifted(points, dx, dy):
    return [(x + dx, y + dy) for x, y in points]


def mirrored(points):
    return [(-x, y) for x, y in points]


def turned(points, quarters):
    for quarter in range(quarters):
        points = [(-y, x) for x, y in points]
    return points


def is_radius(radius):
    return 1 <= radius <= FAR


def makes_disc(points, radius):
    return in_range(points) and is_radius(radius)


def makes_bar(points, radius):
    return in_range(points) and is_radius(radius) and points[0] != points[1]


def points_of_row(row):
    return [(row[k], row[k + 1]) for k in range(0, len(row) - 1, 2)]


def makes_polygon(row):
    if len(row) % 2 == 1 or not 2 * FEWEST_CORNERS <= len(row) <= 2 * MOST_CORNERS:
        return False
    corners = points_of_row(row)
    return in_range(corners) and is_simple(corners)


def is_simple(corners):
    sides = sides_of(corners)
    for k, side in enumerate(sides):
        if side.ax == side.bx and side.ay == side.by:
            return False
        if folds_back(sides[k - 1], side):
            return False
    for k in range(len(sides)):
        # The last side follows the first one, too, so these two are not held to be apart.
        beyond = len(sides) - 1 if k == 0 else len(sides)
        if any([meet(sides[k], sides[other]) for other in range(k + 2, beyond)]):
            return False
    return True


def folds_back(side, following):
    if turn(side, following.bx, following.by) != 0:
        return False
    dx = side.bx - side.ax
    dy = side.by - side.ay
    return dx * (following.bx - following.ax) + dy * (following.by - following.ay) < 0


def meet(one, other):
    return box_distance(one, other) == 0 and side_distance(one, other)[0] == 0


def lowness(point):
    return (point[1], point[0])


def bar_form(points):
    return sorted(points, key=lowness)


def polygon_form(corners):
    if doubled_area(corners) < 0:
        corners = list(reversed(corners))
    start = corners.index(min(corners, key=lowness))
    return corners[start:] + corners[:start]


def form_of(points):
    return polygon_form(points) if len(points) >= FEWEST_CORNERS else bar_form(points)


def doubled_area(corners):
    return sum([side.ax * side.by - side.bx * side.ay for side in sides_of(corners)])
