"""How near shapes are to one another. What has been measured once is kept by the shapes' serial numbers."""

from copperrules.measure import box_distance, least_side_distance, whole_root


class Gauge:
    def __init__(self):
        self.distances = {}
        self.margins = {}

    def distance(self, one, other):
        key = (min(one.serial, other.serial), max(one.serial, other.serial))
        if key not in self.distances:
            self.distances[key] = skeleton_distance(one, other)
        return self.distances[key]

    def margin(self, shape, polygon):
        key = (shape.serial, polygon.serial)
        if key not in self.margins:
            self.margins[key] = margin_within(shape, polygon)
        return self.margins[key]

    def touch(self, one, other):
        return self.within_reach(one, other, one.radius + other.radius)

    def apart(self, one, other, gap):
        reach = one.radius + other.radius + gap
        if box_distance(one, other) >= reach * reach:
            return True
        square = self.distance(one, other)
        return square[0] >= reach * reach * square[1]

    def within_reach(self, one, other, reach):
        square = self.distance(one, other)
        return square[0] <= reach * reach * square[1]

    # A whole number is at most the root of a fraction just if it's at most the root of the whole part.
    def room(self, one, other):
        square = self.distance(one, other)
        return max(0, whole_root(square[0] // square[1]) - one.radius - other.radius)

    def inside(self, shape, polygon, reach):
        square = self.margin(shape, polygon)
        return square is not None and square[0] >= reach * reach * square[1]


def skeleton_distance(one, other):
    if holds_first_point(one, other) or holds_first_point(other, one):
        return (0, 1)
    return least_side_distance(one, other)


# Where no sides meet, a skeleton lies within a polygon with all its points or with none: one of them tells.
def holds_first_point(polygon, shape):
    point = shape.points[0]
    return polygon.covers(point[0], point[1])


# None if a point told of the shape lies outside. If none does, the shape can't hold a whole side of the polygon
# within without its own sides meeting the polygon's: the sides' distances tell all.
def margin_within(shape, polygon):
    if not all([polygon.covers(x, y) for x, y in shape.points]):
        return None
    return least_side_distance(shape, polygon)
