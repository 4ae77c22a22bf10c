"""The document's words once more, slowly and with fractions; the program's answers are held against it."""

from fractions import Fraction
from functools import lru_cache

FAR = 10 ** 9


def sub(p, q):
    return (p[0] - q[0], p[1] - q[1])


def dot(p, q):
    return p[0] * q[0] + p[1] * q[1]


def cross(p, q):
    return p[0] * q[1] - p[1] * q[0]


def square(p):
    return dot(p, p)


def on_segment(p, seg):
    a, b = seg
    return (cross(sub(b, a), sub(p, a)) == 0
            and min(a[0], b[0]) <= p[0] <= max(a[0], b[0]) and min(a[1], b[1]) <= p[1] <= max(a[1], b[1]))


def common_points(one, other):
    """A list of the points in common, or None if they are more than one can list."""
    (a, b), (c, d) = one, other
    way, step = sub(b, a), sub(d, c)
    if cross(way, step) != 0:
        t = Fraction(cross(sub(c, a), step), cross(way, step))
        u = Fraction(cross(sub(c, a), way), cross(way, step))
        if 0 <= t <= 1 and 0 <= u <= 1:
            return [(a[0] + t * way[0], a[1] + t * way[1])]
        return []
    ends = {p for p in one if on_segment(p, other)} | {p for p in other if on_segment(p, one)}
    return None if len(ends) > 1 else list(ends)


def point_to_segment(p, seg):
    a, b = seg
    if a == b:
        return Fraction(square(sub(p, a)))
    t = Fraction(dot(sub(p, a), sub(b, a)), square(sub(b, a)))
    t = min(max(t, Fraction(0)), Fraction(1))
    return square((p[0] - a[0] - t * (b[0] - a[0]), p[1] - a[1] - t * (b[1] - a[1])))


def segment_to_segment(one, other):
    if common_points(one, other) != []:
        return Fraction(0)
    return min([point_to_segment(p, other) for p in one] + [point_to_segment(p, one) for p in other])


def segments(points):
    if len(points) == 1:
        return [(points[0], points[0])]
    if len(points) == 2:
        return [(points[0], points[1])]
    return list(zip(points, points[1:] + points[:1]))


def in_polygon(p, corners):
    """On the sides or within: by the winding number."""
    winding = 0
    for a, b in segments(corners):
        if on_segment(p, (a, b)):
            return True
        if a[1] <= p[1] < b[1] and cross(sub(b, a), sub(p, a)) > 0:
            winding += 1
        if b[1] <= p[1] < a[1] and cross(sub(b, a), sub(p, a)) < 0:
            winding -= 1
    return winding != 0


def skeleton_distance(one, other):
    return distance_of_points(tuple(one), tuple(other))


# Kept for speed, by the points themselves: what is kept can't be out of date.
@lru_cache(maxsize=200000)
def distance_of_points(one, other):
    if len(one) > 2 and any(in_polygon(p, one) for p in other):
        return Fraction(0)
    if len(other) > 2 and any(in_polygon(p, other) for p in one):
        return Fraction(0)
    return min(segment_to_segment(s, t) for s in segments(one) for t in segments(other))


def inside(points, radius, polygon, m):
    if not all(in_polygon(p, polygon) for p in points):
        return False
    return all(skeleton_distance(points, list(side)) >= (radius + m) ** 2 for side in segments(polygon))


def is_simple(corners):
    sides = segments(corners)
    count = len(sides)
    if any(a == b for a, b in sides):
        return False
    for k in range(count):
        for other in range(k):
            shared = common_points(sides[k], sides[other])
            if k - other == 1:
                if shared != [sides[k][0]]:
                    return False
            elif k - other == count - 1:
                if shared != [sides[other][0]]:
                    return False
            elif shared != []:
                return False
    return True


def in_range(points):
    return all(-FAR <= x <= FAR and -FAR <= y <= FAR for x, y in points)


def polygon_of(row):
    """The corners in their one form, or None."""
    if len(row) % 2 or not 6 <= len(row) <= 64:
        return None
    corners = list(zip(row[::2], row[1::2]))
    if not in_range(corners) or not is_simple(corners):
        return None
    return one_form(corners)


def one_form(points):
    points = list(points)
    if sum(cross(a, b) for a, b in segments(points)) < 0 and len(points) > 2:
        points.reverse()
    while points[0] != min(points, key=lambda p: (p[1], p[0])):
        points.append(points.pop(0))
    return points


class Reference:
    def __init__(self):
        self.count = 2
        self.rules = [(1, 1, 0, 1)] * 16
        self.nets = {}
        self.gap = 1
        self.edge = None
        self.stock = {}
        self.given = 0
        self.waived = set()
        self.kept = set()

    def answer(self, call):
        return getattr(self, call[0])(*call[1:])

    def rule_of(self, item):
        return self.rules[self.nets.get(item[0], 0)]

    def layers(self, k):
        if not 1 <= k <= 8 or any(item[1] > k for item in self.stock.values()):
            return [-2]
        self.count = k
        return [0]

    def rule(self, clazz, gap, width, ring, edge):
        if not (0 <= clazz < 16 and all(1 <= v <= FAR for v in (gap, width, edge)) and 0 <= ring <= FAR):
            return [-2]
        self.rules[clazz] = (gap, width, ring, edge)
        return [0]

    def net(self, owner, clazz):
        if not (0 <= owner <= FAR and 0 <= clazz < 16):
            return [-2]
        if len(set(self.nets) - {owner}) >= 64:
            return [-4]
        self.nets[owner] = clazz
        return [0]

    def hole_gap(self, g):
        if not 1 <= g <= FAR:
            return [-2]
        self.gap = g
        return [0]

    def outline(self, row):
        if row and polygon_of(row) is None:
            return [-3]
        self.edge = polygon_of(row)
        return [0]

    def draft(self, layer, owner, points, radius, hole=False):
        if not hole and not 1 <= layer <= self.count or not 0 <= owner <= FAR:
            return -2
        if points is None or not in_range(points) or len(points) == 2 and points[0] == points[1]:
            return -3
        if len(points) < 3 and not 1 <= radius <= FAR:
            return -3
        if len(self.stock) == 128:
            return -4
        return [owner, layer, radius, points]

    def put(self, item):
        if isinstance(item, int):
            return [item]
        self.stock[self.given] = item
        self.given += 1
        return [self.given - 1]

    def disc(self, layer, owner, x, y, r):
        return self.put(self.draft(layer, owner, [(x, y)], r))

    def bar(self, layer, owner, x1, y1, x2, y2, r):
        return self.put(self.draft(layer, owner, one_form([(x1, y1), (x2, y2)]), r))

    def polygon(self, layer, owner, row):
        return self.put(self.draft(layer, owner, polygon_of(row), 0))

    def hole(self, owner, x, y, r):
        return self.put(self.draft(0, owner, [(x, y)], r, hole=True))

    def remove(self, number):
        return [0] if self.stock.pop(number, None) else [-1]

    def move(self, number, dx, dy):
        if number not in self.stock:
            return [-1]
        points = [(x + dx, y + dy) for x, y in self.stock[number][3]]
        if not in_range(points):
            return [-2]
        self.stock[number][3] = points
        return [0]

    def give(self, number, owner):
        if number not in self.stock:
            return [-1]
        if not 0 <= owner <= FAR:
            return [-2]
        self.stock[number][0] = owner
        return [0]

    def lift(self, number, layer):
        if number not in self.stock or self.stock[number][1] == 0:
            return [-1]
        if not 1 <= layer <= self.count:
            return [-2]
        self.stock[number][1] = layer
        return [0]

    def items(self):
        answer = [len(self.stock)]
        for number in sorted(self.stock):
            owner, layer, radius, points = self.stock[number]
            answer += [number, owner, layer, radius, len(points)] + [v for p in points for v in p]
        return answer

    def shown(self):
        return [t for t in self.breaches(self.stock) if t not in self.waived]

    def check(self):
        return self.told(self.shown())

    def check_one(self, number):
        if number not in self.stock:
            return [-1]
        return self.told([t for t in self.concerning(self.stock, number) if t not in self.waived])

    def would(self, item):
        if isinstance(item, int):
            return [item]
        return self.told(self.concerning({**self.stock, self.given: item}, self.given))

    def would_disc(self, layer, owner, x, y, r):
        return self.would(self.draft(layer, owner, [(x, y)], r))

    def would_bar(self, layer, owner, x1, y1, x2, y2, r):
        return self.would(self.draft(layer, owner, one_form([(x1, y1), (x2, y2)]), r))

    def would_hole(self, owner, x, y, r):
        return self.would(self.draft(0, owner, [(x, y)], r, hole=True))

    def waive(self, kind, a, b):
        if (kind, a, b) not in self.breaches(self.stock):
            return [-6]
        if len(self.waived | {(kind, a, b)}) > 64:
            return [-4]
        self.waived.add((kind, a, b))
        return [0]

    def unwaive(self, kind, a, b):
        if (kind, a, b) not in self.waived:
            return [-7]
        self.waived.remove((kind, a, b))
        return [0]

    def waivers(self):
        return self.told(sorted(self.waived))

    def measures(self, one, other):
        return skeleton_distance(self.stock[one][3], self.stock[other][3]), self.stock[one][2] + self.stock[other][2]

    def room_of(self, one, other):
        """By halving: they are apart by what is below, not by what is above."""
        distance, radii = self.measures(one, other)
        below, above = 0, 4 * FAR
        while above - below > 1:
            middle = (below + above) // 2
            if distance >= (radii + middle) ** 2:
                below = middle
            else:
                above = middle
        return below

    def room(self, one, other):
        if one not in self.stock or other not in self.stock:
            return [-1]
        return [self.room_of(one, other)]

    def distance(self, one, other):
        if one not in self.stock or other not in self.stock:
            return [-1]
        distance, radii = self.measures(one, other)
        return [distance.numerator, distance.denominator, radii]

    def pairs(self):
        return [(a, b) for a in self.stock for b in self.stock if a < b]

    def gap_of(self, a, b):
        one, other = self.stock[a], self.stock[b]
        if one[1] == 0 and other[1] == 0:
            return self.gap
        if one[0] != other[0] and (0 in (one[1], other[1]) or one[1] == other[1]):
            return max(self.rule_of(one)[0], self.rule_of(other)[0])
        return 0

    def worst(self):
        found = []
        for a, b in self.pairs():
            gap = self.gap_of(a, b)
            if gap:
                distance, radii = self.measures(a, b)
                found.append((distance / (radii + gap) ** 2, a, b))
        if not found:
            return [-8]
        share, a, b = min(found)
        return [a, b, share.numerator, share.denominator]

    def narrowest(self):
        found = []
        for a, b in self.pairs():
            one, other = self.stock[a], self.stock[b]
            if one[1] == other[1] > 0 and one[0] != other[0]:
                found.append((self.room_of(a, b), a, b))
        if not found:
            return [-8]
        room, a, b = min(found)
        return [a, b, room]

    def report(self):
        return [len([t for t in self.shown() if t[0] == kind]) for kind in range(1, 8)]

    def by_classes(self):
        found = [sorted(self.nets.get(self.stock[number][0], 0) for number in t[1:]) for t in self.shown() if t[0] < 4]
        table = [(c, d, found.count([c, d])) for c in range(16) for d in range(c, 16)]
        return self.told([line for line in table if line[2]])

    def mark(self):
        self.kept = set(self.shown())
        return [len(self.kept)]

    def news(self):
        return self.told(sorted(set(self.shown()) - self.kept))

    def gone(self):
        return self.told(sorted(self.kept - set(self.shown())))

    def change_points(self, change):
        """Nothing is changed and False is answered if a point wouldn't be in range."""
        stock = {number: [change(p) for p in item[3]] for number, item in self.stock.items()}
        edge = [change(p) for p in self.edge or []]
        if not all(in_range(points) for points in [*stock.values(), edge]):
            return False
        for number, points in stock.items():
            self.stock[number][3] = one_form(points)
        self.edge = one_form(edge) if edge else None
        return True

    def shift_all(self, dx, dy):
        return [0] if self.change_points(lambda p: (p[0] + dx, p[1] + dy)) else [-2]

    def turn_all(self, k):
        way = {0: (1, 0), 1: (0, 1), 2: (-1, 0), 3: (0, -1)}[k - k // 4 * 4]
        self.change_points(lambda p: (p[0] * way[0] - p[1] * way[1], p[0] * way[1] + p[1] * way[0]))
        return [0]

    def flip_all(self):
        self.change_points(lambda p: (-p[0], p[1]))
        for item in self.stock.values():
            if item[1]:
                item[1] = self.count + 1 - item[1]
        return [0]

    def told(self, breaches):
        return [len(breaches)] + [v for breach in breaches for v in breach]

    def concerning(self, stock, number):
        found = [t for other in stock for t in self.pair_breaches(stock, number, other)]
        return sorted(found + self.own_breaches(stock, number))

    def breaches(self, stock):
        found = []
        for b in stock:
            found += self.own_breaches(stock, b)
            found += [t for a in stock if a < b for t in self.pair_breaches(stock, a, b)]
        return sorted(found)

    def pair_breaches(self, stock, one, other):
        kind = self.pair_kind(stock[one], stock[other]) if one != other else 0
        return [(kind, min(one, other), max(one, other))] if kind else []

    def pair_kind(self, one, other):
        pieces = (one[1] > 0) + (other[1] > 0)
        distance = skeleton_distance(one[3], other[3])
        radii = one[2] + other[2]
        gap = max(self.rule_of(one)[0], self.rule_of(other)[0])
        if pieces == 0:
            return 4 if distance < (radii + self.gap) ** 2 else 0
        if one[0] == other[0]:
            return 0
        if pieces == 1:
            return 3 if distance < (radii + gap) ** 2 else 0
        if one[1] != other[1]:
            return 0
        if distance <= radii ** 2:
            return 1
        return 2 if distance < (radii + gap) ** 2 else 0

    def own_breaches(self, stock, number):
        owner, layer, radius, points = stock[number]
        gap, width, ring, edge = self.rule_of(stock[number])
        found = []
        if len(points) == 2 and radius < width:
            found.append((5, number, number))
        if self.edge and not inside(points, radius, self.edge, edge):
            found.append((6, number, number))
        if layer == 0:
            for level in range(1, self.count + 1):
                fellows = [item for item in stock.values() if item[1] == level and item[0] == owner]
                if not any(self.holds(item, points[0], radius + ring) for item in fellows):
                    found.append((7, number, level))
        return found

    def holds(self, piece, middle, d):
        owner, layer, radius, points = piece
        if len(points) > 2:
            return inside([middle], d, points, 0)
        return d <= radius and skeleton_distance([middle], points) <= (radius - d) ** 2
