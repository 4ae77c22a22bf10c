"""Many lines of calls, made by a fixed count, held against the slow reference."""

import random
import unittest

from tests.reference import Reference
from tests.talk import BIG, talk


class Maker:
    """Makes calls whose points lie close together, so that distances fall on the very edges."""

    def __init__(self, seed, scale, spread):
        self.dice = random.Random(seed)
        self.scale = scale
        self.spread = spread

    def place(self):
        near = self.dice.randint(-self.spread, self.spread) * self.scale
        return near + (self.dice.choice((-1, 0, 0, 1)) if self.scale > 1 else 0)

    def length(self, most):
        return self.dice.randint(1, most) * self.scale

    def row(self):
        count = self.dice.choice((3, 3, 4, 4, 4, 5, 6))
        return [self.place() for k in range(2 * count)]

    def box(self):
        x, y = self.place(), self.place()
        w, h = self.length(6), self.length(6)
        return [x, y, x + w, y, x + w, y + h, x, y + h]

    def corners(self):
        return self.dice.choice((self.row, self.row, self.box))()

    def owner(self):
        return self.dice.randint(0, 3)

    def layer(self):
        return self.dice.choice((1, 1, 1, 2, 2, 3))

    def item(self):
        return self.dice.randint(0, 14)

    def call(self):
        name = self.dice.choice(self.names)
        return getattr(self, name)()

    names = (["disc", "bar", "polygon", "hole"] * 3 + ["layers", "rule", "net", "hole_gap", "outline"]
             + ["remove", "move", "move", "give", "lift"] + ["check", "check_one", "would_disc"] * 2 + ["items"])

    def disc(self):
        return ("disc", self.layer(), self.owner(), self.place(), self.place(), self.length(3))

    def would_disc(self):
        return ("would_disc",) + self.disc()[1:]

    def bar(self):
        ends = [self.place() for k in range(4)]
        return ("bar", self.layer(), self.owner(), *ends, self.length(3))

    def polygon(self):
        return ("polygon", self.layer(), self.owner(), self.corners())

    def hole(self):
        return ("hole", self.owner(), self.place(), self.place(), self.length(2))

    def layers(self):
        return ("layers", self.dice.choice((0, 1, 2, 3, 4, 8, 9)))

    def rule(self):
        return ("rule", self.dice.randint(0, 2), self.length(3), self.length(3), self.length(2) - self.scale,
                self.length(3))

    def net(self):
        return ("net", self.owner(), self.dice.randint(0, 2))

    def hole_gap(self):
        return ("hole_gap", self.length(4))

    def outline(self):
        wide = self.spread * self.scale
        large = [-wide, -wide, wide, -wide, wide, wide, 0, self.place(), -wide, wide]
        return ("outline", self.dice.choice((self.corners(), large, large)))

    def remove(self):
        return ("remove", self.item())

    def move(self):
        return ("move", self.item(), self.place(), self.place())

    def give(self):
        return ("give", self.item(), self.owner())

    def lift(self):
        return ("lift", self.item(), self.layer())

    def check_one(self):
        return ("check_one", self.item())

    def check(self):
        return ("check",)

    def items(self):
        return ("items",)


class HeldAgainstReference(unittest.TestCase):
    def hold(self, seed, scale, spread, count):
        maker = Maker(seed, scale, spread)
        calls = [maker.call() for k in range(count)] + [("items",), ("check",)]
        reference = Reference()
        for call, answer in zip(calls, talk(*calls)):
            self.assertEqual(reference.answer(call), answer, (seed, call))

    def test_small_boards(self):
        for seed in range(160):
            self.hold(seed, 1, 5, 30)

    def test_wide_boards(self):
        for seed in range(60):
            self.hold(1000 + seed, 1, 14, 40)

    def test_boards_as_great_as_allowed(self):
        for seed in range(60):
            self.hold(2000 + seed, BIG // 8, 8, 30)

    def test_loose_boards(self):
        for seed in range(60):
            self.hold(3000 + seed, 10, 8, 40)


POLYGONS = [
    [(0, 0), (6, 0), (2, 5)],
    [(0, 0), (4, 0), (8, 4), (8, 8)],
    [(0, 0), (8, 0), (8, 3), (3, 3), (3, 8), (0, 8)],
    [(0, 0), (8, 0), (8, 8), (6, 8), (6, 2), (2, 2), (2, 8), (0, 8)],
    [(0, 0), (3, 2), (4, 0), (5, 2), (8, 0), (6, 4), (8, 8), (4, 6), (0, 8), (2, 4)],
    [(0, 0), (8, 0), (8, 8), (2, 8), (2, 4), (5, 4), (5, 6), (6, 6), (6, 2), (0, 2)],
    [(4, 0), (8, 4), (4, 8), (0, 4), (3, 4), (4, 6), (6, 4), (4, 2), (2, 3)],
    [(0, 0), (2, 0), (2, 4), (4, 4), (4, 0), (8, 0), (8, 8), (6, 8), (6, 4), (5, 6), (0, 8)],
]


class Lattice(unittest.TestCase):
    """Small discs and holes all over a polygon and around it: on its corners, its sides, and these made longer."""

    row = [v for v in range(-10, 91, 5)]

    def told(self, corners):
        return [10 * v for p in corners for v in p]

    def hold(self, calls):
        reference = Reference()
        for call, answer in zip(calls, talk(*calls)):
            self.assertEqual(reference.answer(call), answer, call)

    def test_discs_beside_a_polygon(self):
        for corners in POLYGONS:
            for y in self.row:
                self.hold([("polygon", 1, 0, self.told(corners))]
                          + [("would_disc", 1, 1, x, y, 1 + (x + y) % 4) for x in self.row])

    def test_discs_in_an_outline(self):
        for corners in POLYGONS:
            for y in self.row:
                self.hold([("outline", self.told(corners))]
                          + [("would_disc", 1, 1, x, y, 1 + (x + y) % 4) for x in self.row])

    def test_holes_in_a_polygon(self):
        for corners in POLYGONS:
            for y in self.row:
                self.hold([("layers", 1), ("polygon", 1, 1, self.told(corners))]
                          + [("hole", 1, x, y, 1) for x in self.row] + [("check_one", k) for k in range(22)])

    def test_bars_in_and_beside_a_polygon(self):
        for corners in POLYGONS:
            for x in self.row[::5]:
                calls = [("polygon", 1, 0, self.told(corners)), ("outline", self.told(corners))]
                calls += [("bar", 1, 1, x, y, 80 - x, 70 - y, 2) for y in self.row[::2]]
                calls += [("bar", 1, 1, x, y, x + 7, y + 2, 1) for y in self.row[::2]]
                self.hold(calls + [("check_one", k) for k in range(23)])


if __name__ == "__main__":
    unittest.main()
