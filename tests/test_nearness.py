"""room, distance, worst, narrowest: how near items are, exactly."""

import math
import unittest
from fractions import Fraction

from copperrules.measure import in_least_terms, whole_root
from tests.boards import box, rule
from tests.talk import BIG, INT_HIGH, INT_LOW, Same, last, talk


def disc(x, y, r=1, owner=0, layer=1):
    return ("disc", layer, owner, x, y, r)


def bar(x1, y1, x2, y2, r=1, owner=0, layer=1):
    return ("bar", layer, owner, x1, y1, x2, y2, r)


def polygon(row, owner=0, layer=1):
    return ("polygon", layer, owner, row)


# Two items that touch, lie within one another or have a point in common.
MEETING = [
    (disc(0, 0, 5), disc(10, 0, 5)), (disc(0, 0, 5), disc(3, 4, 1)), (disc(7, 7, 5), disc(7, 7, 5)),
    (bar(0, 0, 9, 9), bar(0, 9, 9, 0)), (bar(0, 0, 9, 0, 3), disc(12, 4, 2)), (bar(0, 0, 9, 0), bar(4, 0, 20, 0)),
    (polygon(box(0, 0, 9, 9)), polygon(box(9, 9, 20, 20))), (polygon(box(0, 0, 90, 90)), polygon(box(40, 40, 50, 50))),
    (polygon(box(0, 0, 90, 90)), disc(45, 45, 3)), (polygon(box(0, 0, 90, 90)), bar(10, 10, 20, 30)),
    (polygon(box(-9, -1, 9, 1)), polygon(box(-1, -9, 1, 9))), (polygon(box(0, 0, 9, 9)), bar(-5, 4, 20, 4)),
    (("hole", 0, 0, 0, 5), disc(2, 2, 1)), (("hole", 0, 0, 0, 5), ("hole", 1, 10, 0, 5)),
]


class WholeNumbers(unittest.TestCase):
    def test_whole_roots(self):
        for number in range(5000):
            self.assertEqual(whole_root(number), math.isqrt(number))
        for root in (70, 12345, BIG - 1, BIG, BIG + 1, 2828427124):
            for number in (root * root - 1, root * root, root * root + 1, root * root + 2 * root, (root + 1) ** 2):
                self.assertEqual(whole_root(number), math.isqrt(number))

    def test_least_terms(self):
        for upper in range(40):
            for lower in range(1, 40):
                fraction = Fraction(upper, lower)
                self.assertEqual(in_least_terms((upper, lower)), (fraction.numerator, fraction.denominator))
        self.assertEqual(in_least_terms((0, BIG)), (0, 1))
        self.assertEqual(in_least_terms((6 * BIG ** 3, 4 * BIG ** 2)), (3 * BIG // 2, 1))


class Room(Same):
    def hold(self, one, other, room):
        self.assertEqual(last(one, other, ("room", 0, 1)), [room], (one, other))
        self.assertEqual(last(one, other, ("room", 1, 0)), [room], (one, other))

    def test_discs_beside_one_another(self):
        for x, room in ((0, 0), (6, 0), (7, 0), (8, 1), (9, 2), (107, 100)):
            self.hold(disc(0, 0, 3), disc(x, 0, 4), room)
            self.hold(disc(0, x, 3), disc(0, 0, 4), room)

    def test_squares_of_whole_numbers(self):
        self.hold(disc(0, 0), disc(3, 4), 3)
        self.hold(disc(0, 0), disc(-6, 8), 8)
        self.hold(disc(0, 0, 2), disc(3, 4, 2), 1)
        self.hold(disc(0, 0, 2), disc(3, 4, 3), 0)
        self.hold(disc(0, 0), disc(20, -21), 27)

    def test_one_beside_a_square(self):
        # The squares of these distances are 26, 37, 80, 82, 8 and 10.
        for x, y, root in ((5, 1, 5), (6, 1, 6), (8, 4, 8), (9, 1, 9), (2, 2, 2), (3, 1, 3)):
            self.hold(disc(0, 0), disc(x, y), root - 2)

    def test_less_than_one_more_than_touching(self):
        self.hold(disc(0, 0, 2), disc(4, 1, 2), 0)
        self.hold(disc(0, 0, 2), disc(4, 2, 2), 0)
        self.hold(disc(0, 0, 2), disc(4, 3, 2), 1)

    def test_every_square_to_a_few_hundreds(self):
        calls, wanted = [disc(0, 0)], []
        for x in range(2, 20):
            for y in (0, 1, 7, x):
                calls += [("disc", 1, 0, x, y, 1), ("room", 0, len(wanted) + 1)]
                wanted.append([max(0, math.isqrt(x * x + y * y) - 2)])
        self.assertEqual(talk(*calls)[2::2], wanted)

    def test_fractions(self):
        slope = bar(7, 0, 0, 1)
        # 3249/50 is a little less than 65.
        self.hold(slope, disc(-1, -7), 6)
        # 49/50 is a little less than 1.
        self.hold(slope, disc(0, 0), 0)
        # Just 10, by a fraction; and a little less and more than that.
        diagonal = bar(-40, -30, 40, 30)
        self.hold(diagonal, disc(-6, 8), 8)
        self.hold(diagonal, disc(-5, 8), 7)
        self.hold(diagonal, disc(-7, 8), 8)
        self.hold(diagonal, polygon([-6, 8, -60, 80, -80, 60]), 9)

    def test_polygons(self):
        for x, room in ((8, 0), (9, 0), (10, 1), (11, 2), (500, 491)):
            self.hold(polygon(box(0, 0, 9, 9)), polygon(box(x, 3, x + 5, 5)), room)
        notch = polygon([0, 0, 30, 0, 30, 30, 20, 30, 20, 10, 10, 10, 10, 30, 0, 30])
        self.hold(notch, disc(15, 20, 2), 3)
        self.hold(notch, polygon(box(12, 13, 18, 40)), 2)

    def test_one_item_with_itself(self):
        for item in (disc(4, 4, 5), bar(1, 2, 3, 4, 5), polygon(box(0, 0, 9, 9)), ("hole", 0, 3, 3, 3)):
            self.assertEqual(last(item, ("room", 0, 0)), [0])

    def test_none_where_they_meet(self):
        for one, other in MEETING:
            self.hold(one, other, 0)

    def test_owners_layers_and_kinds_do_not_matter(self):
        ones = [disc(0, 0, 2, owner, layer) for owner in (0, 1) for layer in (1, 2)] + [("hole", 0, 0, 0, 2)]
        for one in ones:
            for other in (disc(10, 0, 3, 0, 1), ("hole", 0, 10, 0, 3), ("hole", 7, 10, 0, 3)):
                self.hold(one, other, 5)
        self.assertEqual(last(rule(gap=500), ("hole_gap", 900), *ones[:1], ("hole", 1, 10, 0, 3), ("room", 0, 1)), [5])

    def test_as_far_as_allowed(self):
        self.hold(disc(-BIG, -BIG), disc(BIG, BIG), 2828427124 - 2)
        self.hold(disc(-BIG, 0, BIG - 1), disc(BIG, 0, BIG), 1)
        self.hold(disc(-BIG, 0, BIG), disc(BIG, 0, BIG), 0)
        self.hold(disc(-BIG, 0, BIG), disc(BIG, 1, BIG), 0)
        self.hold(disc(-BIG, 7), disc(BIG, 7), 2 * BIG - 2)
        self.hold(disc(-BIG, 7), disc(BIG, 8), 2 * BIG - 2)
        self.hold(polygon(box(-BIG, -BIG, 1 - BIG, 1 - BIG)), polygon(box(BIG - 1, -BIG, BIG, BIG)), 2 * BIG - 2)

    def test_beside_great_squares(self):
        # The square of 2kk and that of 2k together are one less than the square of 2kk + 1.
        for k in (1000, 22360, 31622):
            along = 2 * k * k
            self.hold(disc(along - BIG, 2 * k), disc(-BIG, 0), along - 2)
            self.hold(disc(along + 1 - BIG, 0), disc(-BIG, 0), along + 1 - 2)

    def test_fractions_at_great_distances(self):
        flat = bar(-BIG, 0, BIG, 1)
        self.hold(flat, disc(1 - BIG, 50), 47)
        self.hold(flat, disc(1 - BIG, -50), 48)
        self.hold(flat, disc(-BIG, 50), 47)
        self.hold(flat, disc(-BIG, -50), 48)

    def test_what_changed_is_measured_anew(self):
        board = [disc(0, 0), disc(10, 0)]
        given = talk(*board, ("room", 0, 1), ("move", 1, 5, 0), ("room", 0, 1), ("shift_all", 5, 5), ("room", 0, 1),
                     ("move", 0, -1, 0), ("room", 0, 1), ("turn_all", 1), ("room", 1, 0))
        self.assertEqual(given[2::2], [[8], [13], [13], [14], [14]])

    def test_no_such_item(self):
        board = [disc(0, 0), disc(10, 0), disc(20, 0), ("remove", 1)]
        for name in ("room", "distance"):
            for wrong in (-1, 1, 3, INT_LOW, INT_HIGH):
                self.assertRefused(board, (name, wrong, 0), -1)
                self.assertRefused(board, (name, 0, wrong), -1)
                self.assertRefused(board, (name, wrong, wrong), -1)
            self.assertRefused([], (name, 0, 0), -1)


class Distance(unittest.TestCase):
    def hold(self, one, other, upper, lower, radii):
        self.assertEqual(last(one, other, ("distance", 0, 1)), [upper, lower, radii], (one, other))
        self.assertEqual(last(one, other, ("distance", 1, 0)), [upper, lower, radii], (one, other))

    def test_whole_ones(self):
        self.hold(disc(0, 0, 3), disc(3, 4, 4), 25, 1, 7)
        self.hold(disc(0, 0, 3), disc(1, 1, 4), 2, 1, 7)
        self.hold(disc(0, 0, 3), bar(-9, 5, 9, 5, 2), 25, 1, 5)
        self.hold(disc(0, 0, 3), polygon(box(6, -9, 20, 9)), 36, 1, 3)
        self.hold(polygon(box(0, 0, 5, 5)), polygon(box(6, 7, 9, 9)), 5, 1, 0)
        self.hold(("hole", 0, 0, 0, 8), bar(2, 2, 9, 9, 1), 8, 1, 9)

    def test_none(self):
        for one, other in MEETING:
            upper, lower, radii = last(one, other, ("distance", 0, 1))
            if one[0] in ("disc", "hole") and other[0] in ("disc", "hole"):
                self.assertEqual(lower, 1)
            elif one[0] == "bar" and other[0] == "disc":
                self.assertEqual((upper, lower), (25, 1))
            else:
                self.assertEqual((upper, lower), (0, 1))
        self.hold(disc(7, 7, 5), disc(7, 7, 2), 0, 1, 7)
        self.hold(bar(-8, -6, 8, 6, 5), disc(4, 3, 2), 0, 1, 7)

    def test_one_item_with_itself(self):
        self.assertEqual(last(disc(3, 3, 4), ("distance", 0, 0)), [0, 1, 8])
        self.assertEqual(last(bar(3, 3, 9, 4, 4), ("distance", 0, 0)), [0, 1, 8])
        self.assertEqual(last(polygon(box(0, 0, 9, 9)), ("distance", 0, 0)), [0, 1, 0])
        self.assertEqual(last(("hole", 1, 3, 3, BIG), ("distance", 0, 0)), [0, 1, 2 * BIG])

    def test_fractions_in_least_terms(self):
        self.hold(bar(7, 0, 0, 1), disc(0, 0), 49, 50, 2)
        self.hold(bar(0, 0, 4, 2), disc(1, 2), 9, 5, 2)
        self.hold(bar(0, 0, 10, 20), disc(0, 5), 5, 1, 2)
        self.hold(bar(0, 0, 20, 20), disc(7, 8), 1, 2, 2)
        self.hold(bar(0, 0, 30, 10, 7), bar(5, 5, -9, 90, 6), 10, 1, 13)
        self.hold(polygon([0, 0, 30, 0, 0, 20]), disc(20, 20), 1600, 13, 1)

    def test_fractions_at_great_distances(self):
        wide, high = 2 * BIG, 2 * BIG - 1
        square = Fraction((wide * BIG - high * BIG) ** 2, wide ** 2 + high ** 2)
        self.hold(bar(-BIG, -BIG, BIG, BIG - 1), disc(0, 0), square.numerator, square.denominator, 2)
        square = Fraction((wide * wide) ** 2, wide ** 2 + high ** 2)
        self.assertGreater(square.numerator, INT_HIGH ** 2)
        self.hold(bar(-BIG, -BIG, BIG, BIG - 1), disc(-BIG, BIG), square.numerator, square.denominator, 2)
        self.hold(disc(-BIG, -BIG, BIG), disc(BIG, BIG, BIG), 8 * BIG * BIG, 1, 2 * BIG)

    def test_owners_layers_and_kinds_do_not_matter(self):
        for one in (disc(0, 0, 2, 0, 1), disc(0, 0, 2, 1, 2), ("hole", 5, 0, 0, 2)):
            self.hold(one, disc(10, 0, 3), 100, 1, 5)
            self.hold(one, ("hole", 5, 10, 0, 3), 100, 1, 5)


class Worst(Same):
    def hold(self, wanted, *calls):
        self.assertEqual(last(*calls, ("worst",)), wanted, calls)

    def test_no_such_pair(self):
        for board in ([], [disc(0, 0)], [("hole", 0, 0, 0, 1)], [disc(0, 0), disc(1, 0)],
                      [disc(0, 0, 1, 0, 1), disc(0, 0, 1, 1, 2)], [disc(0, 0), ("hole", 0, 0, 0, 1)],
                      [disc(0, 0), disc(0, 0, 1, 1), ("remove", 0)], [disc(0, 0), disc(0, 0, 1, 1), ("give", 1, 0)],
                      [disc(0, 0), disc(0, 0, 1, 1), ("lift", 1, 2)]):
            self.assertRefused(board, ("worst",), -8)

    def test_two_pieces(self):
        self.hold([0, 1, 100, 49], rule(gap=4), disc(0, 0, 1), disc(10, 0, 2, 1))
        self.hold([0, 1, 1, 1], rule(gap=7), disc(0, 0, 1), disc(10, 0, 2, 1))
        self.hold([0, 1, 25, 64], rule(gap=13), disc(0, 0, 1), disc(10, 0, 2, 1))
        self.hold([0, 1, 25, 4], polygon(box(0, 0, 5, 5)), polygon(box(10, 0, 15, 5), 1), ("rule", 0, 2, 1, 1, 1))

    def test_no_distance(self):
        self.hold([0, 1, 0, 1], disc(0, 0, 5), disc(0, 0, 7, 1))
        self.hold([0, 1, 0, 1], bar(0, 0, 9, 9), bar(0, 9, 9, 0, 1, 1))

    def test_the_greater_gap_of_two_pieces(self):
        classes = [("rule", 1, 5, 1, 0, 1), ("rule", 2, 8, 1, 0, 1), ("net", 1, 1), ("net", 2, 2)]
        for first, second in ((1, 2), (2, 1)):
            self.hold([0, 1, 9, 1], *classes, disc(0, 0, 1, first), disc(30, 0, 1, second))
        self.hold([0, 1, 900, 49], *classes, disc(0, 0, 1, 1), disc(30, 0, 1, 0))

    def test_a_hole_and_a_piece(self):
        classes = [("hole_gap", 99), ("rule", 1, 5, 1, 0, 1), ("rule", 2, 8, 1, 0, 1), ("net", 1, 1), ("net", 2, 2)]
        for layer in (1, 2):
            self.hold([0, 1, 9, 1], *classes, ("hole", 1, 0, 0, 1), disc(30, 0, 1, 2, layer))
            self.hold([0, 1, 9, 1], *classes, disc(30, 0, 1, 2, layer), ("hole", 1, 0, 0, 1))

    def test_two_holes(self):
        for owner in (0, 1):
            self.hold([0, 1, 25, 4], rule(gap=99), ("hole_gap", 8), ("hole", 0, 0, 0, 2), ("hole", owner, 30, 0, 2))

    def test_pairs_that_need_not_keep_a_gap(self):
        self.hold([0, 3, 100, 1], disc(0, 0, 1), disc(-1, 0, 1), disc(1, 1, 1, 1, 2), disc(30, 0, 1, 1))
        self.hold([1, 2, 100, 1], disc(0, 0, 1), ("hole", 0, 0, 0, 1), ("hole", 0, 30, 0, 1))

    def test_the_share_and_not_the_distance(self):
        classes = [("rule", 1, 96, 1, 0, 1), ("net", 5, 1)]
        # 3 apart where 3 are asked; 50 apart where 98 are asked.
        self.hold([2, 3, 625, 2401], *classes, disc(0, 0), disc(3, 0, 1, 1), disc(500, 0), disc(550, 0, 1, 5))
        self.hold([0, 1, 1, 1], disc(0, 0), disc(3, 0, 1, 1), disc(500, 0), disc(550, 0, 1, 5))

    def test_holes_and_pieces_together(self):
        board = [disc(0, 0), disc(30, 0, 1, 1), ("hole", 2, 0, 28, 1), ("hole", 2, 0, 54, 1)]
        self.hold([2, 3, 26 * 26, 9], *board)
        self.hold([0, 2, 28 * 28, 9], *board, ("move", 3, 0, 3))
        self.hold([0, 1, 100, 1], *board, ("move", 2, 50, 50), ("move", 3, 500, 0))
        self.hold([0, 2, 49, 25], *board, ("rule", 0, 18, 1, 0, 1))
        self.hold([2, 3, 26 * 26, 121], *board, ("hole_gap", 9))

    def test_of_several_the_least_a_then_the_least_b(self):
        row = [disc(10 * k, 0, 1, k) for k in range(5)]
        self.hold([0, 1, 100, 9], *row)
        self.hold([1, 2, 100, 9], *row, ("remove", 0))
        self.hold([0, 2, 100, 9], disc(0, 0), disc(500, 0, 1, 9), disc(10, 0, 1, 1), disc(-10, 0, 1, 2))
        self.hold([0, 3, 100, 9], disc(0, 0), disc(500, 0, 1, 8), disc(510, 0, 1, 9), disc(10, 0, 1, 1))
        self.hold([0, 1, 0, 1], *[disc(3, 3, 9, k) for k in range(9)])

    def test_alike_by_unlike_numbers(self):
        # 10 by 5 and 20 by 10.
        first = [disc(0, 0, 2), disc(10, 0, 2, 1)]
        second = [disc(500, 0, 4), disc(520, 0, 5, 1)]
        self.hold([0, 1, 4, 1], *first, *second)
        self.hold([0, 1, 4, 1], *second, *first)
        self.hold([0, 1, 4, 1], *first, *second, ("move", 3, 1, 0))
        self.hold([2, 3, 361, 100], *first, *second, ("move", 3, -1, 0))

    def test_fractions(self):
        self.hold([0, 1, 49, 450], bar(7, 0, 0, 1), disc(0, 0, 1, 1))
        self.hold([0, 1, 5, 9], bar(0, 0, 10, 20), disc(0, 5, 1, 1))
        # 9/5 by 9 is less than 2 by 9.
        self.hold([2, 3, 1, 5], disc(90, 0), disc(91, 1, 1, 1), bar(0, 0, 4, 2), disc(1, 2, 1, 1))

    def test_as_great_as_allowed(self):
        self.hold([0, 1, 8, 9], rule(gap=BIG), disc(-BIG, -BIG, BIG), disc(BIG, BIG, BIG, 1))
        self.hold([0, 1, 8 * BIG * BIG, 9], disc(-BIG, -BIG), disc(BIG, BIG, 1, 1))
        line, far = bar(-BIG, -BIG, BIG, BIG - 1), disc(-BIG, BIG, 7, 1)
        wide, high = 2 * BIG, 2 * BIG - 1
        share = Fraction((wide * wide) ** 2, (wide ** 2 + high ** 2) * 9 ** 2)
        self.hold([0, 1, share.numerator, share.denominator], line, far)

    def test_what_changed_is_told_anew(self):
        given = talk(disc(0, 0), disc(10, 0, 1, 1), ("worst",), ("move", 1, 2, 0), ("worst",), rule(gap=4), ("worst",),
                     ("net", 1, 3), ("worst",), ("rule", 3, 10, 1, 0, 1), ("worst",), ("disc", 1, 2, 0, 3, 1),
                     ("worst",), ("give", 2, 0), ("worst",))
        self.assertEqual(given[2::2], [[0, 1, 100, 9], [0, 1, 16, 1], [0, 1, 4, 1], [0, 1, 4, 1], [0, 1, 1, 1],
                                       [0, 2, 1, 4], [0, 1, 1, 1]])


class Narrowest(Same):
    def hold(self, wanted, *calls):
        self.assertEqual(last(*calls, ("narrowest",)), wanted, calls)

    def test_no_such_pair(self):
        for board in ([], [disc(0, 0)], [disc(0, 0), disc(1, 0)], [disc(0, 0, 1, 0, 1), disc(0, 0, 1, 1, 2)],
                      [disc(0, 0), ("hole", 1, 0, 0, 1)], [("hole", 0, 0, 0, 1), ("hole", 1, 0, 0, 1)],
                      [disc(0, 0), disc(0, 0, 1, 1), ("remove", 1)], [disc(0, 0), disc(0, 0, 1, 1), ("give", 0, 1)],
                      [disc(0, 0), disc(0, 0, 1, 1), ("lift", 0, 2)]):
            self.assertRefused(board, ("narrowest",), -8)

    def test_the_least_room(self):
        board = [disc(0, 0), disc(50, 0, 1, 1), disc(0, 40, 1, 2), disc(50, 35, 1, 3)]
        self.hold([1, 3, 33], *board)
        self.hold([0, 2, 38], *board, ("move", 3, 0, 50))
        self.hold([0, 1, 48], *board, ("move", 3, 0, 70), ("move", 2, 0, 70))
        self.hold([0, 1, 28], *board, ("move", 0, 20, 0))

    def test_the_room_and_not_the_distance(self):
        self.hold([0, 1, 5], disc(0, 0, 10), disc(25, 0, 10, 1), disc(90, 0), disc(98, 0, 1, 1))

    def test_the_gap_does_not_matter(self):
        self.hold([0, 1, 8], ("rule", 1, 99, 1, 0, 1), ("net", 3, 1), disc(0, 0), disc(10, 0, 1, 1), disc(90, 0),
                  disc(101, 0, 1, 3))

    def test_pieces_of_unlike_owners_on_one_layer(self):
        self.hold([0, 4, 98], disc(0, 0), disc(-1, 0), disc(1, 0, 1, 1, 2), ("hole", 1, 2, 0, 1), disc(100, 0, 1, 1))
        self.hold([2, 3, 3], disc(0, 0), ("hole", 1, 0, 0, 1), disc(0, 0, 1, 0, 2), disc(0, 5, 1, 1, 2))

    def test_of_several_the_least_a_then_the_least_b(self):
        row = [disc(10 * k, 0, 1, k) for k in range(5)]
        self.hold([0, 1, 8], *row)
        self.hold([1, 2, 8], *row, ("remove", 0))
        self.hold([0, 2, 8], disc(0, 0), disc(500, 0, 1, 9), disc(10, 0, 1, 1), disc(-10, 0, 1, 2))
        self.hold([0, 3, 8], disc(0, 0), disc(500, 0, 1, 8), disc(510, 0, 1, 9), disc(10, 0, 1, 1))

    def test_alike_though_one_is_nearer(self):
        # The roots of 116 and 125, beside 10: the whole part is 10, then 11.
        self.hold([0, 1, 8], disc(0, 0), disc(10, 4, 1, 1), disc(500, 0), disc(510, 0, 1, 1))
        self.hold([2, 3, 8], disc(0, 0), disc(10, 5, 1, 1), disc(500, 0), disc(510, 0, 1, 1))

    def test_no_room(self):
        self.hold([0, 1, 0], *[disc(3, 3, 9, k) for k in range(9)])
        # The first two don't touch, but have no room; the next ones touch.
        self.hold([0, 1, 0], disc(0, 0, 2), disc(4, 1, 2, 1), disc(500, 0, 5), disc(501, 0, 5, 1))
        self.hold([0, 1, 0], disc(500, 0, 5), disc(501, 0, 5, 1), disc(0, 0, 2), disc(4, 1, 2, 1))
        self.hold([2, 3, 0], disc(0, 0), disc(3, 0, 1, 1), disc(500, 0, 5), disc(501, 0, 5, 1))
        self.hold([0, 1, 1], disc(0, 0), disc(3, 0, 1, 1), disc(500, 0, 5), disc(511, 0, 5, 1))

    def test_as_far_as_allowed(self):
        self.hold([0, 1, 2828427122], disc(-BIG, -BIG), disc(BIG, BIG, 1, 1))
        self.hold([0, 1, 2 * BIG - 6], bar(-BIG, BIG, -BIG, -BIG), polygon(box(BIG - 5, 0, BIG, 5), 1))
        self.hold([0, 1, 1], disc(-BIG, 0, BIG), disc(BIG, 0, BIG - 1, 1))

    def test_other_shapes(self):
        notch = polygon([0, 0, 30, 0, 30, 30, 20, 30, 20, 10, 10, 10, 10, 30, 0, 30])
        self.hold([0, 1, 2], notch, polygon(box(12, 13, 18, 40), 1))
        self.hold([0, 1, 6], bar(7, 0, 0, 1), disc(-1, -7, 1, 1))


if __name__ == "__main__":
    unittest.main()
