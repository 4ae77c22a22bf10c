"""What a board has: its rules, its outline, its items, and what is waived and marked."""

from copperrules.gauge import Gauge
from copperrules.shapes import Shape, form_of, mirrored, shifted, turned

CLASSES = 16
LAYER_OF_HOLES = 0


class Rule:
    def __init__(self, gap, width, ring, edge):
        self.gap = gap
        self.width = width
        self.ring = ring
        self.edge = edge


class Item:
    def __init__(self, number, owner, layer, shape):
        self.number = number
        self.owner = owner
        self.layer = layer
        self.shape = shape

    def is_hole(self):
        return self.layer == LAYER_OF_HOLES


class Board:
    def __init__(self):
        self.layers = 2
        self.hole_gap = 1
        self.rules = [Rule(1, 1, 0, 1) for clazz in range(CLASSES)]
        self.class_by_owner = {}
        self.outline = None
        self.item_by_number = {}
        self.numbers_given = 0
        self.shapes_made = 0
        self.gauge = Gauge()
        self.known_pairs = []
        self.stale = {}
        self.waived = {}
        self.marked = {}

    def class_of(self, owner):
        return self.class_by_owner.get(owner, 0)

    def rule_of(self, owner):
        return self.rules[self.class_of(owner)]

    # By rising numbers: a dict keeps the order in which its keys came, and numbers only rise.
    def all_items(self):
        return list(self.item_by_number.values())

    def all_shapes(self):
        shapes = [item.shape for item in self.all_items()]
        return shapes if self.outline is None else shapes + [self.outline]

    def make_shape(self, points, radius):
        self.shapes_made += 1
        return Shape(self.shapes_made, points, radius)

    def draft(self, layer, owner, points, radius):
        return Item(self.numbers_given, owner, layer, self.make_shape(points, radius))

    # The breaches of pairs are kept from check to check; those of a stale item are looked for anew.
    def make_stale(self, number):
        self.stale[number] = True

    def make_all_stale(self):
        for number in list(self.item_by_number):
            self.make_stale(number)

    def keep_pairs(self, breaches):
        self.known_pairs = breaches
        self.stale = {}

    def set_layers(self, layers):
        self.layers = layers

    def set_rule(self, clazz, rule):
        self.rules[clazz] = rule
        self.make_all_stale()

    def set_class(self, owner, clazz):
        self.class_by_owner[owner] = clazz
        self.make_all_stale()

    def set_hole_gap(self, gap):
        self.hole_gap = gap
        self.make_all_stale()

    def set_outline(self, corners):
        self.outline = self.make_shape(corners, 0) if corners else None

    def put(self, item):
        self.item_by_number[item.number] = item
        self.numbers_given += 1
        self.make_stale(item.number)

    def take_away(self, number):
        self.item_by_number.pop(number)
        self.make_stale(number)

    def move(self, item, dx, dy):
        item.shape = self.make_shape(shifted(item.shape.points, dx, dy), item.shape.radius)
        self.make_stale(item.number)

    def give(self, item, owner):
        item.owner = owner
        self.make_stale(item.number)

    def lift(self, item, layer):
        item.layer = layer
        self.make_stale(item.number)

    # When all shapes go together their distances stay: serial numbers, measures and known pairs do too.
    def shift_all(self, dx, dy):
        for shape in self.all_shapes():
            shape.place(shifted(shape.points, dx, dy))

    def turn_all(self, quarters):
        for shape in self.all_shapes():
            shape.place(form_of(turned(shape.points, quarters)))

    def flip_all(self):
        for shape in self.all_shapes():
            shape.place(form_of(mirrored(shape.points)))
        for item in self.all_items():
            if not item.is_hole():
                item.layer = self.layers + 1 - item.layer

    def waive(self, breach):
        self.waived[breach] = True

    def unwaive(self, breach):
        self.waived.pop(breach)

    def mark(self, breaches):
        self.marked = dict([(breach, True) for breach in breaches])
