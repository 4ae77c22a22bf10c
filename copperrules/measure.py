"""Exact measures of straight sides.

The square of a distance is a fraction: a pair of its upper and its lower number, the lower one above 0.
"""


class Side:
    def __init__(self, start, end):
        self.ax = start[0]
        self.ay = start[1]
        self.bx = end[0]
        self.by = end[1]
        self.left = min(start[0], end[0])
        self.right = max(start[0], end[0])
        self.low = min(start[1], end[1])
        self.high = max(start[1], end[1])


# A single point counts as a side from itself to itself, so that all skeletons are measured in one way.
def sides_of(points):
    if len(points) < 3:
        return [Side(points[0], points[-1])]
    return [Side(points[k], points[(k + 1) % len(points)]) for k in range(len(points))]


def turn(side, x, y):
    return (side.bx - side.ax) * (y - side.ay) - (side.by - side.ay) * (x - side.ax)


def square_of_length(dx, dy):
    return dx * dx + dy * dy


# Never more than the square of the distance of what lies in the two boxes.
def box_distance(one, other):
    dx = one.left - other.right
    if dx < 0:
        dx = max(0, other.left - one.right)
    dy = one.low - other.high
    if dy < 0:
        dy = max(0, other.low - one.high)
    return dx * dx + dy * dy


def in_box(x, y, box):
    return box.left <= x <= box.right and box.low <= y <= box.high


def point_distance(x, y, side):
    dx = side.bx - side.ax
    dy = side.by - side.ay
    along = (x - side.ax) * dx + (y - side.ay) * dy
    if along <= 0:
        return (square_of_length(x - side.ax, y - side.ay), 1)
    whole = square_of_length(dx, dy)
    if along >= whole:
        return (square_of_length(x - side.bx, y - side.by), 1)
    across = turn(side, x, y)
    return (across * across, whole)


def strictly_between(side, other):
    first = turn(side, other.ax, other.ay)
    second = turn(side, other.bx, other.by)
    return (first < 0 and second > 0) or (first > 0 and second < 0)


def lesser(one, other):
    return one if one[0] * other[1] <= other[0] * one[1] else other


def in_least_terms(fraction):
    divisor = fraction[1]
    rest = fraction[0]
    while rest > 0:
        whole = divisor
        divisor = rest
        rest = whole % divisor
    return (fraction[0] // divisor, fraction[1] // divisor)


# The greatest whole number whose square is at most the number: from above, by Newton's steps.
def whole_root(number):
    root = number
    better = (root + 1) // 2
    while better < root:
        root = better
        better = (root + number // root) // 2
    return root


# Sides that meet otherwise than by crossing have an end of one on the other, which the four ends' distances tell.
def side_distance(one, other):
    if strictly_between(one, other) and strictly_between(other, one):
        return (0, 1)
    best = point_distance(one.ax, one.ay, other)
    best = lesser(best, point_distance(one.bx, one.by, other))
    best = lesser(best, point_distance(other.ax, other.ay, one))
    return lesser(best, point_distance(other.bx, other.by, one))


# The sides with their boxes' distance from another box, the nearest first.
def by_nearness(sides, box):
    return sorted([(box_distance(side, box), k) for k, side in enumerate(sides)])


# The boxes spare most of the exact measures: a pair of sides whose boxes are no nearer than the best can't better it.
def least_side_distance(shape, other):
    best = side_distance(shape.sides[0], other.sides[0])
    columns = by_nearness(other.sides, shape)
    for bound, k in by_nearness(shape.sides, other):
        if bound * best[1] >= best[0]:
            return best
        best = least_in_row(shape.sides[k], other.sides, columns, best)
    return best


def least_in_row(side, sides, columns, best):
    for bound, k in columns:
        if bound * best[1] >= best[0]:
            return best
        if box_distance(side, sides[k]) * best[1] < best[0]:
            best = lesser(best, side_distance(side, sides[k]))
    return best


def on_or_within(x, y, sides):
    odd = False
    for side in sides:
        bend = turn(side, x, y)
        if bend == 0 and in_box(x, y, side):
            return True
        if side.ay <= y < side.by and bend > 0:
            odd = not odd
        if side.by <= y < side.ay and bend < 0:
            odd = not odd
    return odd
