"""Many lines of calls, made by a fixed count, held against the slow reference."""

import random
import unittest

from tests.reference import Reference
from tests.talk import BIG, talk


class Maker:
    """Makes calls whose points lie close together, so that distances fall on the very edges."""

    putting = ["disc", "bar", "polygon", "hole"]
    setting = ["layers", "rule", "net", "hole_gap", "outline"]
    changing = ["remove", "move", "move", "give", "lift", "shift_all", "turn_all", "flip_all"]
    asking = ["check", "check_one", "would_disc", "would_bar", "would_hole", "room", "room", "distance", "distance",
              "worst", "narrowest", "report", "by_classes", "news", "gone"]
    letting = ["waive", "waive", "waive", "unwaive", "waivers", "mark"]
    names = putting * 5 + setting * 2 + changing + letting + asking + ["items"]

    def __init__(self, seed, scale, spread, most=14):
        self.dice = random.Random(seed)
        self.scale = scale
        self.spread = spread
        self.most = most
        self.seen = []
        self.let_pass = []

    def hear(self, call, answer):
        """Breaches that were answered are those to be waived, and the waived ones those to be unwaived."""
        if call[0] in ("check", "check_one", "news", "waivers") and answer[0] > 0:
            self.seen = [tuple(answer[k:k + 3]) for k in range(1, len(answer), 3)]
        if call[0] == "waive" and answer == [0]:
            self.let_pass.append(call[1:])

    def call(self):
        return self.make(self.dice.choice(self.names))

    def make(self, name):
        return (name, *getattr(self, name, tuple)())

    def place(self):
        near = self.dice.randint(-self.spread, self.spread) * self.scale
        return near + (self.dice.choice((-1, 0, 0, 1)) if self.scale > 1 else 0)

    def length(self, most):
        return self.dice.randint(1, most) * self.scale

    def row(self):
        count = self.dice.choice((3, 3, 4, 4, 4, 5, 6))
        return [self.place() for k in range(2 * count)]

    def box(self):
        x, y = self.place(), self.place()
        w, h = self.length(6), self.length(6)
        return [x, y, x + w, y, x + w, y + h, x, y + h]

    def corners(self):
        return self.dice.choice((self.row, self.row, self.box))()

    def owner(self):
        return self.dice.randint(0, 3)

    def layer(self):
        return self.dice.choice((1, 1, 1, 2, 2, 3))

    def item(self):
        return self.dice.randint(0, self.most)

    def disc(self):
        return (self.layer(), self.owner(), self.place(), self.place(), self.length(3))

    def bar(self):
        ends = [self.place() for k in range(4)]
        return (self.layer(), self.owner(), *ends, self.length(3))

    def polygon(self):
        return (self.layer(), self.owner(), self.corners())

    def hole(self):
        return (self.owner(), self.place(), self.place(), self.length(2))

    would_disc, would_bar, would_hole = disc, bar, hole

    def layers(self):
        return (self.dice.choice((0, 1, 2, 3, 4, 8, 9)),)

    def rule(self):
        return (self.dice.randint(0, 2), self.length(3), self.length(3), self.length(2) - self.scale, self.length(3))

    def net(self):
        return (self.owner(), self.dice.randint(0, 2))

    def hole_gap(self):
        return (self.length(4),)

    def outline(self):
        wide = self.spread * self.scale
        large = [-wide, -wide, wide, -wide, wide, wide, 0, self.place(), -wide, wide]
        return (self.dice.choice((self.corners(), large, large)),)

    def remove(self):
        return (self.item(),)

    check_one = remove

    def move(self):
        return (self.item(), self.place(), self.place())

    def give(self):
        return (self.item(), self.owner())

    def lift(self):
        return (self.item(), self.layer())

    def room(self):
        return (self.item(), self.item())

    distance = room

    def breach(self, known):
        if known and self.dice.randint(0, 5):
            return self.dice.choice(known)
        return (self.dice.randint(-1, 8), self.item(), self.item())

    def waive(self):
        return self.breach(self.seen)

    def unwaive(self):
        return self.breach(self.let_pass)

    def shift_all(self):
        far = self.dice.choice((1, 1, self.scale, self.spread * self.scale))
        return (self.dice.randint(-far, far), self.dice.randint(-far, far))

    def turn_all(self):
        return (self.dice.randint(-9, 9),)


ENDING = [("items",), ("check",), ("waivers",), ("news",), ("gone",), ("worst",), ("narrowest",), ("report",),
          ("by_classes",)]


class HeldAgainstReference(unittest.TestCase):
    def hold(self, maker, told, count):
        reference = Reference()
        calls, wanted = [], []
        for k in range(len(told) + count + len(ENDING)):
            call = (told + [None] * count + ENDING)[k] or maker.call()
            calls.append(call)
            wanted.append(reference.answer(call))
            maker.hear(call, wanted[-1])
        for call, answer, given in zip(calls, wanted, talk(*calls)):
            self.assertEqual(answer, given, call)

    def test_small_boards(self):
        for seed in range(160):
            self.hold(Maker(seed, 1, 5), [], 60)

    def test_wide_boards(self):
        for seed in range(60):
            self.hold(Maker(1000 + seed, 1, 14), [], 60)

    def test_boards_as_great_as_allowed(self):
        for seed in range(60):
            self.hold(Maker(2000 + seed, BIG // 8, 8), [], 60)

    def test_loose_boards(self):
        for seed in range(60):
            self.hold(Maker(3000 + seed, 10, 8), [], 60)

    def test_four_hundred_calls(self):
        for seed in range(2):
            self.hold(Maker(4000 + seed, 5, 12, 60), [], 400 - len(ENDING))

    def test_many_waivers(self):
        for seed in range(10):
            maker = Maker(6000 + seed, 1, 4, 15)
            maker.names = ["waive"] * 30 + ["unwaive", "waivers", "check", "remove", "move", "disc", "hole", "mark"]
            heap = [("disc", 1, k, k % 3, 0, 5) for k in range(10)] + [("hole", k, 0, 0, 5) for k in range(5)]
            self.hold(maker, heap + [("check",)], 180)

    def full(self, maker):
        names = ["disc", "disc", "bar", "hole"] * 32
        return [("layers", 3)] + [maker.make(name) for name in names]

    def test_full_boards(self):
        for seed, scale, spread in ((1, 1, 20), (2, 10, 60), (3, BIG // 100, 90)):
            maker = Maker(5000 + seed, scale, spread, 130)
            boxes = [("remove", k) for k in range(8)] + [("polygon", 1, k % 3, maker.box()) for k in range(8)]
            self.hold(maker, self.full(maker) + boxes, 60)


POLYGONS = [
    [(0, 0), (6, 0), (2, 5)],
    [(0, 0), (4, 0), (8, 4), (8, 8)],
    [(0, 0), (8, 0), (8, 3), (3, 3), (3, 8), (0, 8)],
    [(0, 0), (8, 0), (8, 8), (6, 8), (6, 2), (2, 2), (2, 8), (0, 8)],
    [(0, 0), (3, 2), (4, 0), (5, 2), (8, 0), (6, 4), (8, 8), (4, 6), (0, 8), (2, 4)],
    [(0, 0), (8, 0), (8, 8), (2, 8), (2, 4), (5, 4), (5, 6), (6, 6), (6, 2), (0, 2)],
    [(4, 0), (8, 4), (4, 8), (0, 4), (3, 4), (4, 6), (6, 4), (4, 2), (2, 3)],
    [(0, 0), (2, 0), (2, 4), (4, 4), (4, 0), (8, 0), (8, 8), (6, 8), (6, 4), (5, 6), (0, 8)],
]


class Lattice(unittest.TestCase):
    """Small discs and holes all over a polygon and around it: on its corners, its sides, and these made longer."""

    row = [v for v in range(-10, 91, 5)]

    def told(self, corners):
        return [10 * v for p in corners for v in p]

    def hold(self, calls):
        reference = Reference()
        for call, answer in zip(calls, talk(*calls)):
            self.assertEqual(reference.answer(call), answer, call)

    def test_discs_beside_a_polygon(self):
        for corners in POLYGONS:
            for y in self.row:
                self.hold([("polygon", 1, 0, self.told(corners))]
                          + [("would_disc", 1, 1, x, y, 1 + (x + y) % 4) for x in self.row])

    def test_discs_in_an_outline(self):
        for corners in POLYGONS:
            for y in self.row:
                self.hold([("outline", self.told(corners))]
                          + [("would_disc", 1, 1, x, y, 1 + (x + y) % 4) for x in self.row])

    def test_holes_in_a_polygon(self):
        for corners in POLYGONS:
            for y in self.row:
                self.hold([("layers", 1), ("polygon", 1, 1, self.told(corners))]
                          + [("hole", 1, x, y, 1) for x in self.row] + [("check_one", k) for k in range(22)])

    def test_bars_in_and_beside_a_polygon(self):
        for corners in POLYGONS:
            for x in self.row[::5]:
                calls = [("polygon", 1, 0, self.told(corners)), ("outline", self.told(corners))]
                calls += [("bar", 1, 1, x, y, 80 - x, 70 - y, 2) for y in self.row[::2]]
                calls += [("bar", 1, 1, x, y, x + 7, y + 2, 1) for y in self.row[::2]]
                self.hold(calls + [("check_one", k) for k in range(23)])


if __name__ == "__main__":
    unittest.main()
