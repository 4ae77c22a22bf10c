"""The document's words once more, slowly and with fractions; the program's answers are held against it."""

from fractions import Fraction

FAR = 10 ** 9


def sub(p, q):
    return (p[0] - q[0], p[1] - q[1])


def dot(p, q):
    return p[0] * q[0] + p[1] * q[1]


def cross(p, q):
    return p[0] * q[1] - p[1] * q[0]


def square(p):
    return dot(p, p)


def on_segment(p, seg):
    a, b = seg
    return (cross(sub(b, a), sub(p, a)) == 0
            and min(a[0], b[0]) <= p[0] <= max(a[0], b[0]) and min(a[1], b[1]) <= p[1] <= max(a[1], b[1]))


def common_points(one, other):
    """A list of the points in common, or None if they are more than one can list."""
    (a, b), (c, d) = one, other
    way, step = sub(b, a), sub(d, c)
    if cross(way, step) != 0:
        t = Fraction(cross(sub(c, a), step), cross(way, step))
        u = Fraction(cross(sub(c, a), way), cross(way, step))
        if 0 <= t <= 1 and 0 <= u <= 1:
            return [(a[0] + t * way[0], a[1] + t * way[1])]
        return []
    ends = {p for p in one if on_segment(p, other)} | {p for p in other if on_segment(p, one)}
    return None if len(ends) > 1 else list(ends)


def point_to_segment(p, seg):
    a, b = seg
    if a == b:
        return Fraction(square(sub(p, a)))
    t = Fraction(dot(sub(p, a), sub(b, a)), square(sub(b, a)))
    t = min(max(t, Fraction(0)), Fraction(1))
    return square((p[0] - a[0] - t * (b[0] - a[0]), p[1] - a[1] - t * (b[1] - a[1])))


def segment_to_segment(one, other):
    if common_points(one, other) != []:
        return Fraction(0)
    return min([point_to_segment(p, other) for p in one] + [point_to_segment(p, one) for p in other])


def segments(points):
    if len(points) == 1:
        return [(points[0], points[0])]
    if len(points) == 2:
        return [(points[0], points[1])]
    return list(zip(points, points[1:] + points[:1]))


def in_polygon(p, corners):
    """On the sides or within: by the winding number."""
    winding = 0
    for a, b in segments(corners):
        if on_segment(p, (a, b)):
            return True
        if a[1] <= p[1] < b[1] and cross(sub(b, a), sub(p, a)) > 0:
            winding += 1
        if b[1] <= p[1] < a[1] and cross(sub(b, a), sub(p, a)) < 0:
            winding -= 1
    return winding != 0


def skeleton_distance(one, other):
    if len(one) > 2 and any(in_polygon(p, one) for p in other):
        return Fraction(0)
    if len(other) > 2 and any(in_polygon(p, other) for p in one):
        return Fraction(0)
    return min(segment_to_segment(s, t) for s in segments(one) for t in segments(other))


def inside(points, radius, polygon, m):
    if not all(in_polygon(p, polygon) for p in points):
        return False
    return all(skeleton_distance(points, list(side)) >= (radius + m) ** 2 for side in segments(polygon))


def is_simple(corners):
    sides = segments(corners)
    count = len(sides)
    if any(a == b for a, b in sides):
        return False
    for k in range(count):
        for other in range(k):
            shared = common_points(sides[k], sides[other])
            if k - other == 1:
                if shared != [sides[k][0]]:
                    return False
            elif k - other == count - 1:
                if shared != [sides[other][0]]:
                    return False
            elif shared != []:
                return False
    return True


def in_range(points):
    return all(-FAR <= x <= FAR and -FAR <= y <= FAR for x, y in points)


def polygon_of(row):
    """The corners in their one form, or None."""
    if len(row) % 2 or not 6 <= len(row) <= 64:
        return None
    corners = list(zip(row[::2], row[1::2]))
    if not in_range(corners) or not is_simple(corners):
        return None
    if sum(cross(a, b) for a, b in segments(corners)) < 0:
        corners.reverse()
    while corners[0] != min(corners, key=lambda p: (p[1], p[0])):
        corners.append(corners.pop(0))
    return corners


class Reference:
    def __init__(self):
        self.count = 2
        self.rules = [(1, 1, 0, 1)] * 16
        self.nets = {}
        self.gap = 1
        self.edge = None
        self.stock = {}
        self.given = 0

    def answer(self, call):
        return getattr(self, call[0])(*call[1:])

    def rule_of(self, item):
        return self.rules[self.nets.get(item[0], 0)]

    def layers(self, k):
        if not 1 <= k <= 8 or any(item[1] > k for item in self.stock.values()):
            return [-2]
        self.count = k
        return [0]

    def rule(self, clazz, gap, width, ring, edge):
        if not (0 <= clazz < 16 and all(1 <= v <= FAR for v in (gap, width, edge)) and 0 <= ring <= FAR):
            return [-2]
        self.rules[clazz] = (gap, width, ring, edge)
        return [0]

    def net(self, owner, clazz):
        if not (0 <= owner <= FAR and 0 <= clazz < 16):
            return [-2]
        if len(set(self.nets) - {owner}) >= 64:
            return [-4]
        self.nets[owner] = clazz
        return [0]

    def hole_gap(self, g):
        if not 1 <= g <= FAR:
            return [-2]
        self.gap = g
        return [0]

    def outline(self, row):
        if row and polygon_of(row) is None:
            return [-3]
        self.edge = polygon_of(row)
        return [0]

    def draft(self, layer, owner, points, radius, hole=False):
        if not hole and not 1 <= layer <= self.count or not 0 <= owner <= FAR:
            return -2
        if points is None or not in_range(points) or len(points) == 2 and points[0] == points[1]:
            return -3
        if len(points) < 3 and not 1 <= radius <= FAR:
            return -3
        if len(self.stock) == 128:
            return -4
        return [owner, layer, radius, points]

    def put(self, item):
        if isinstance(item, int):
            return [item]
        self.stock[self.given] = item
        self.given += 1
        return [self.given - 1]

    def disc(self, layer, owner, x, y, r):
        return self.put(self.draft(layer, owner, [(x, y)], r))

    def bar(self, layer, owner, x1, y1, x2, y2, r):
        ends = sorted([(x1, y1), (x2, y2)], key=lambda p: (p[1], p[0]))
        return self.put(self.draft(layer, owner, ends, r))

    def polygon(self, layer, owner, row):
        return self.put(self.draft(layer, owner, polygon_of(row), 0))

    def hole(self, owner, x, y, r):
        return self.put(self.draft(0, owner, [(x, y)], r, hole=True))

    def remove(self, number):
        return [0] if self.stock.pop(number, None) else [-1]

    def move(self, number, dx, dy):
        if number not in self.stock:
            return [-1]
        points = [(x + dx, y + dy) for x, y in self.stock[number][3]]
        if not in_range(points):
            return [-2]
        self.stock[number][3] = points
        return [0]

    def give(self, number, owner):
        if number not in self.stock:
            return [-1]
        if not 0 <= owner <= FAR:
            return [-2]
        self.stock[number][0] = owner
        return [0]

    def lift(self, number, layer):
        if number not in self.stock or self.stock[number][1] == 0:
            return [-1]
        if not 1 <= layer <= self.count:
            return [-2]
        self.stock[number][1] = layer
        return [0]

    def items(self):
        answer = [len(self.stock)]
        for number in sorted(self.stock):
            owner, layer, radius, points = self.stock[number]
            answer += [number, owner, layer, radius, len(points)] + [v for p in points for v in p]
        return answer

    def check(self):
        return self.told(self.breaches(self.stock))

    def check_one(self, number):
        if number not in self.stock:
            return [-1]
        return self.told(self.concerning(self.stock, number))

    def would_disc(self, layer, owner, x, y, r):
        item = self.draft(layer, owner, [(x, y)], r)
        if isinstance(item, int):
            return [item]
        return self.told(self.concerning({**self.stock, self.given: item}, self.given))

    def told(self, breaches):
        return [len(breaches)] + [v for breach in breaches for v in breach]

    def concerning(self, stock, number):
        found = [t for other in stock for t in self.pair_breaches(stock, number, other)]
        return sorted(found + self.own_breaches(stock, number))

    def breaches(self, stock):
        found = []
        for b in stock:
            found += self.own_breaches(stock, b)
            found += [t for a in stock if a < b for t in self.pair_breaches(stock, a, b)]
        return sorted(found)

    def pair_breaches(self, stock, one, other):
        kind = self.pair_kind(stock[one], stock[other]) if one != other else 0
        return [(kind, min(one, other), max(one, other))] if kind else []

    def pair_kind(self, one, other):
        pieces = (one[1] > 0) + (other[1] > 0)
        distance = skeleton_distance(one[3], other[3])
        radii = one[2] + other[2]
        gap = max(self.rule_of(one)[0], self.rule_of(other)[0])
        if pieces == 0:
            return 4 if distance < (radii + self.gap) ** 2 else 0
        if one[0] == other[0]:
            return 0
        if pieces == 1:
            return 3 if distance < (radii + gap) ** 2 else 0
        if one[1] != other[1]:
            return 0
        if distance <= radii ** 2:
            return 1
        return 2 if distance < (radii + gap) ** 2 else 0

    def own_breaches(self, stock, number):
        owner, layer, radius, points = stock[number]
        gap, width, ring, edge = self.rule_of(stock[number])
        found = []
        if len(points) == 2 and radius < width:
            found.append((5, number, number))
        if self.edge and not inside(points, radius, self.edge, edge):
            found.append((6, number, number))
        if layer == 0:
            for level in range(1, self.count + 1):
                fellows = [item for item in stock.values() if item[1] == level and item[0] == owner]
                if not any(self.holds(item, points[0], radius + ring) for item in fellows):
                    found.append((7, number, level))
        return found

    def holds(self, piece, middle, d):
        owner, layer, radius, points = piece
        if len(points) > 2:
            return inside([middle], d, points, 0)
        return d <= radius and skeleton_distance([middle], points) <= (radius - d) ** 2
