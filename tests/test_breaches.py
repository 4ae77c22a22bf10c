"""Kinds 1 to 7, each at the very distance where it begins and one beside it; check, check one, would disc."""

import unittest

from tests.boards import ALL_FOUND, ALL_KINDS, box, rule
from tests.talk import BIG, checked, kinds, last, talk, triples


class Pieces(unittest.TestCase):
    """Kinds 1 and 2. The second piece is told by a function of how far it is moved to the right."""

    def hold(self, gap, one, other, touching):
        """At `touching` the two just touch; one further they don't."""
        board = [rule(gap), one]
        for at, kind in ((touching - 1, [1]), (touching, [1]), (touching + 1, [2] if gap > 1 else []),
                         (touching + gap - 1, [2] if gap > 1 else [1]), (touching + gap, []),
                         (touching + gap + 1, [])):
            self.assertEqual(kinds(*board, other(at)), kind, (one, other(at)))
            self.assertEqual(kinds(rule(gap), other(at), one), kind, (one, other(at)))

    def in_gaps(self, one, other, touching):
        for gap in (1, 2, 7, 1000):
            self.hold(gap, one, other, touching)

    def test_discs(self):
        self.in_gaps(("disc", 1, 0, 0, 0, 3), lambda x: ("disc", 1, 1, x, 0, 4), 7)
        self.in_gaps(("disc", 1, 0, 5, -9, 3), lambda x: ("disc", 1, 1, 5, x - 9, 1), 4)

    def test_disc_and_bar(self):
        self.in_gaps(("disc", 1, 0, 0, 0, 3), lambda x: ("bar", 1, 1, x, -5, x, 5, 4), 7)
        self.in_gaps(("disc", 1, 0, 0, 0, 3), lambda x: ("bar", 1, 1, x, 0, x + 9, 0, 4), 7)

    def test_disc_and_polygon(self):
        self.in_gaps(("disc", 1, 0, 0, 0, 3), lambda x: ("polygon", 1, 1, box(x, -5, x + 9, 5)), 3)
        self.in_gaps(("disc", 1, 0, 0, 0, 3), lambda x: ("polygon", 1, 1, [x, 0, x + 9, -9, x + 9, 9]), 3)

    def test_bars(self):
        self.in_gaps(("bar", 1, 0, 0, -9, 0, 9, 3), lambda x: ("bar", 1, 1, x, 0, x + 9, 0, 2), 5)
        self.in_gaps(("bar", 1, 0, 0, -9, 0, 9, 3), lambda x: ("bar", 1, 1, x, -20, x, 20, 2), 5)
        self.in_gaps(("bar", 1, 0, -9, 0, 0, 0, 3), lambda x: ("bar", 1, 1, x, 0, x + 30, 0, 2), 5)

    def test_bar_and_polygon(self):
        self.in_gaps(("bar", 1, 0, 0, -9, 0, 9, 3), lambda x: ("polygon", 1, 1, [x, 1, x + 9, 0, x + 9, 9]), 3)
        self.in_gaps(("bar", 1, 0, -5, 0, 0, 0, 3), lambda x: ("polygon", 1, 1, box(x, -9, x + 9, 9)), 3)

    def test_polygons(self):
        self.in_gaps(("polygon", 1, 0, box(-9, -9, 0, 9)), lambda x: ("polygon", 1, 1, box(x, -2, x + 4, 2)), 0)
        self.in_gaps(("polygon", 1, 0, box(-9, -9, 0, 9)), lambda x: ("polygon", 1, 1, [x, 0, x + 4, -2, x + 4, 2]), 0)

    def test_as_great_as_allowed(self):
        one, other = ("disc", 1, 0, -BIG, 0, BIG - 5), ("disc", 1, 1, BIG, 0, 5)
        for gap, kind in ((BIG - 1, []), (BIG, []), (1, [])):
            self.assertEqual(kinds(rule(gap), one, other), kind)
        self.assertEqual(kinds(rule(BIG), one, ("disc", 1, 1, BIG, 0, 6)), [2])
        self.assertEqual(kinds(("disc", 1, 0, -BIG, 0, BIG), ("disc", 1, 1, BIG, 0, BIG)), [1])
        self.assertEqual(kinds(("disc", 1, 0, -BIG, 0, BIG), ("disc", 1, 1, BIG, 0, BIG - 1)), [])
        self.assertEqual(kinds(rule(2), ("disc", 1, 0, -BIG, 0, BIG), ("disc", 1, 1, BIG, 0, BIG - 1)), [2])
        self.assertEqual(kinds(("disc", 1, 0, -BIG, 0, BIG), ("disc", 1, 1, BIG, 1, BIG)), [2])
        self.assertEqual(kinds(rule(BIG), ("disc", 1, 0, -BIG, -BIG, BIG), ("disc", 1, 1, BIG, BIG, BIG)), [2])

    def test_squares_that_are_whole(self):
        self.assertEqual(kinds(("disc", 1, 0, 0, 0, 2), ("disc", 1, 1, 3, 4, 3)), [1])
        self.assertEqual(kinds(("disc", 1, 0, 0, 0, 2), ("disc", 1, 1, 3, 4, 2)), [])
        self.assertEqual(kinds(rule(2), ("disc", 1, 0, 0, 0, 2), ("disc", 1, 1, 3, 4, 2)), [2])
        self.assertEqual(kinds(("disc", 1, 0, 0, 0, 2), ("disc", 1, 1, 4, 4, 3)), [2])

    def test_squares_that_are_fractions(self):
        # The distance of 0, 0 from the line 7, 0 to 0, 1 is the root of 49/50: a little less than 1.
        slope = ("bar", 1, 0, 7, 0, 0, 1, 3)
        self.assertEqual(kinds(slope, ("disc", 1, 1, 0, 0, 1)), [1])
        # The distance of -1, -7 from it squares to 3249/50, a little less than 65: between those of 8 and 9.
        for radius, kind in ((4, []), (5, [2]), (6, [1])):
            self.assertEqual(kinds(slope, ("disc", 1, 1, -1, -7, radius)), kind, radius)
        # The nearest point is neither end, and the distance is 10, a whole number.
        diagonal = ("bar", 1, 0, -40, -30, 40, 30, 1)
        self.assertEqual(kinds(diagonal, ("disc", 1, 1, -6, 8, 9)), [1])
        self.assertEqual(kinds(diagonal, ("disc", 1, 1, -6, 8, 8)), [])
        self.assertEqual(kinds(rule(2), diagonal, ("disc", 1, 1, -6, 8, 8)), [2])

    def test_fractions_at_great_distances(self):
        line = ("bar", 1, 0, -BIG, -BIG, BIG, BIG - 1, 1)
        # At 0, y the distance is about y + 1/2 by the root of 2.
        self.assertEqual(kinds(line, ("disc", 1, 1, 0, 0, 1)), [1])
        self.assertEqual(kinds(line, ("disc", 1, 1, 0, 2, 1)), [1])
        self.assertEqual(kinds(line, ("disc", 1, 1, 0, 3, 1)), [2])
        self.assertEqual(kinds(line, ("disc", 1, 1, 0, 4, 1)), [])
        # Above this one distances are a little less than 2 and 3, below it a little more.
        flat = ("bar", 1, 0, -BIG, 0, BIG, 1, 1)
        self.assertEqual(kinds(flat, ("disc", 1, 1, -BIG + 1, 2, 1)), [1])
        self.assertEqual(kinds(flat, ("disc", 1, 1, -BIG + 1, 3, 1)), [2])
        self.assertEqual(kinds(flat, ("disc", 1, 1, -BIG + 1, -2, 1)), [2])
        self.assertEqual(kinds(flat, ("disc", 1, 1, -BIG + 1, -3, 1)), [])

    def test_one_within_another(self):
        large = ("polygon", 1, 0, box(-100, -100, 100, 100))
        for inner in (("disc", 1, 1, 0, 0, 1), ("bar", 1, 1, -5, 0, 5, 0, 1), ("polygon", 1, 1, box(-5, -5, 5, 5)),
                      ("polygon", 1, 1, box(-100, -100, 100, 100))):
            self.assertEqual(kinds(large, inner), [1])
            self.assertEqual(kinds(inner, large), [1])
        self.assertEqual(kinds(("disc", 1, 0, 0, 0, 50), ("disc", 1, 1, 3, 3, 2)), [1])

    def test_in_a_notch(self):
        horseshoe = ("polygon", 1, 0, [0, 0, 30, 0, 30, 30, 20, 30, 20, 10, 10, 10, 10, 30, 0, 30])
        self.assertEqual(kinds(horseshoe, ("disc", 1, 1, 15, 20, 4)), [])
        self.assertEqual(kinds(rule(2), horseshoe, ("disc", 1, 1, 15, 20, 4)), [2])
        self.assertEqual(kinds(horseshoe, ("disc", 1, 1, 15, 20, 5)), [1])
        self.assertEqual(kinds(horseshoe, ("polygon", 1, 1, box(11, 11, 19, 40))), [])
        self.assertEqual(kinds(rule(2), horseshoe, ("polygon", 1, 1, box(11, 11, 19, 40))), [2])
        self.assertEqual(kinds(horseshoe, ("polygon", 1, 1, box(11, 10, 19, 40))), [1])
        self.assertEqual(kinds(rule(9), horseshoe, ("disc", 1, 1, 15, 50, 11)), [])
        self.assertEqual(kinds(rule(9), horseshoe, ("disc", 1, 1, 15, 50, 12)), [2])

    def test_bars_that_cross(self):
        self.assertEqual(kinds(("bar", 1, 0, 0, 0, 100, 100, 1), ("bar", 1, 1, 0, 100, 100, 0, 1)), [1])
        self.assertEqual(kinds(("bar", 1, 0, -BIG, -BIG, BIG, BIG, 1), ("bar", 1, 1, -BIG, BIG, BIG, -BIG, 1)), [1])

    def test_polygons_whose_sides_cross_without_a_corner_within(self):
        self.assertEqual(kinds(("polygon", 1, 0, box(-9, -1, 9, 1)), ("polygon", 1, 1, box(-1, -9, 1, 9))), [1])

    def test_within_and_outside_by_a_hair(self):
        # The second one's lowest corner is less than a tenth away from the first one's slanting side.
        first = ("polygon", 1, 0, [0, 0, 20, 0, 21, 10, 0, 10])
        self.assertEqual(kinds(first, ("polygon", 1, 1, [20, 1, 15, 5, 10, 3])), [1])
        self.assertEqual(kinds(first, ("polygon", 1, 1, [21, 9, 30, 15, 25, 15])), [2])
        first = ("polygon", 1, 0, [0, 0, 20, 0, 20, 10, -1, 10])
        self.assertEqual(kinds(first, ("polygon", 1, 1, [0, 1, 15, 5, 10, 3])), [1])
        self.assertEqual(kinds(first, ("polygon", 1, 1, [-1, 9, -5, 15, -9, 15])), [2])

    def test_like_owners(self):
        self.assertEqual(kinds(rule(50), ("disc", 1, 3, 0, 0, 5), ("disc", 1, 3, 2, 0, 5), ("bar", 1, 3, 0, 0, 9, 9, 1)),
                         [])

    def test_other_layers(self):
        self.assertEqual(kinds(rule(50), ("disc", 1, 0, 0, 0, 5), ("disc", 2, 1, 0, 0, 5)), [])
        self.assertEqual(kinds(rule(50), ("disc", 2, 0, 0, 0, 5), ("disc", 2, 1, 0, 0, 5)), [1])

    def test_the_greater_gap(self):
        classes = [("rule", 1, 5, 1, 0, 1), ("rule", 2, 9, 1, 0, 1), ("net", 1, 1), ("net", 2, 2)]
        for first, second in ((1, 2), (2, 1)):
            self.assertEqual(kinds(*classes, ("disc", 1, first, 0, 0, 1), ("disc", 1, second, 11, 0, 1)), [])
            self.assertEqual(kinds(*classes, ("disc", 1, first, 0, 0, 1), ("disc", 1, second, 10, 0, 1)), [2])
        self.assertEqual(kinds(*classes, ("disc", 1, 0, 0, 0, 1), ("disc", 1, 1, 6, 0, 1)), [2])
        self.assertEqual(kinds(*classes, ("disc", 1, 0, 0, 0, 1), ("disc", 1, 1, 7, 0, 1)), [])


class HoleAndPiece(unittest.TestCase):
    """Kind 3; holes here have breaches of kind 7 too, which aren't looked at."""

    def near(self, *calls):
        return [breach for breach in checked(*calls) if breach[0] == 3]

    def test_where_it_begins(self):
        pieces = [(("disc", 1, 1, 0, 0, 4), 4), (("bar", 2, 1, 0, -9, 0, 9, 4), 4), (("bar", 1, 1, -9, 0, 0, 0, 4), 4),
                  (("polygon", 2, 1, box(-9, -9, 0, 9)), 0), (("polygon", 1, 1, [0, 0, -9, 5, -9, -5]), 0)]
        for piece, radius in pieces:
            for gap in (1, 6, 500):
                apart = 3 + radius + gap
                for at, found in ((apart - 1, 1), (apart, 0), (apart + 1, 0), (3 + radius, 1), (1, 1)):
                    hole = ("hole", 0, at, 0, 3)
                    self.assertEqual(self.near(rule(gap), piece, hole), [(3, 0, 1)] * found, (piece, hole))
                    self.assertEqual(self.near(rule(gap), hole, piece), [(3, 0, 1)] * found, (piece, hole))

    def test_on_any_layer(self):
        board = [("layers", 8), ("hole", 0, 0, 0, 3)] + [("disc", k, 1, 0, 0, 4) for k in range(1, 9)]
        self.assertEqual(self.near(*board), [(3, 0, k) for k in range(1, 9)])

    def test_like_owners(self):
        self.assertEqual(self.near(("hole", 1, 0, 0, 3), ("disc", 1, 1, 0, 0, 4), ("disc", 1, 1, 6, 0, 4)), [])

    def test_the_greater_gap(self):
        classes = [("rule", 1, 5, 1, 0, 1), ("rule", 2, 9, 1, 0, 1), ("net", 1, 1), ("net", 2, 2), ("hole_gap", 99)]
        for first, second in ((1, 2), (2, 1)):
            self.assertEqual(self.near(*classes, ("hole", first, 0, 0, 1), ("disc", 1, second, 11, 0, 1)), [])
            self.assertEqual(self.near(*classes, ("hole", first, 0, 0, 1), ("disc", 1, second, 10, 0, 1)), [(3, 0, 1)])

    def test_within_a_piece(self):
        self.assertEqual(self.near(("polygon", 1, 1, box(-90, -90, 90, 90)), ("hole", 0, 0, 0, 3)), [(3, 0, 1)])

    def test_as_great_as_allowed(self):
        piece = ("disc", 1, 1, -BIG, 0, BIG - 1)
        self.assertEqual(self.near(rule(1), piece, ("hole", 0, BIG, 0, BIG)), [])
        self.assertEqual(self.near(rule(2), piece, ("hole", 0, BIG, 0, BIG)), [(3, 0, 1)])
        self.assertEqual(self.near(rule(BIG), piece, ("hole", 0, BIG, 0, 1)), [])
        self.assertEqual(self.near(rule(BIG), piece, ("hole", 0, BIG, 0, 2)), [(3, 0, 1)])


class Holes(unittest.TestCase):
    """Kind 4."""

    def near(self, *calls):
        return [breach for breach in checked(*calls) if breach[0] == 4]

    def test_where_it_begins(self):
        for owner in (0, 1):
            for gap in (1, 6, 500):
                for at, found in ((7 + gap - 1, 1), (7 + gap, 0), (7 + gap + 1, 0), (7, 1), (0, 1)):
                    board = [("hole_gap", gap), ("hole", 0, 0, 5, 3), ("hole", owner, at, 5, 4)]
                    self.assertEqual(self.near(*board), [(4, 0, 1)] * found, board)

    def test_aslant(self):
        self.assertEqual(self.near(("hole", 0, 0, 0, 2), ("hole", 0, 3, 4, 2)), [])
        self.assertEqual(self.near(("hole", 0, 0, 0, 2), ("hole", 0, 3, 4, 3)), [(4, 0, 1)])
        self.assertEqual(self.near(("hole", 0, 0, 0, 2), ("hole", 0, 4, 4, 2)), [])
        self.assertEqual(self.near(("hole", 0, 0, 0, 2), ("hole", 0, 4, 4, 3)), [(4, 0, 1)])

    def test_no_other_kind_for_two_holes(self):
        found = checked(("hole", 0, 0, 0, 5), ("hole", 1, 0, 0, 5))
        self.assertEqual([breach for breach in found if breach[0] < 7], [(4, 0, 1)])

    def test_as_great_as_allowed(self):
        board = [("hole", 0, -BIG, -7, BIG), ("hole", 0, BIG, -7, 5)]
        self.assertEqual(self.near(("hole_gap", BIG - 5), *board), [])
        self.assertEqual(self.near(("hole_gap", BIG - 4), *board), [(4, 0, 1)])


class Widths(unittest.TestCase):
    """Kind 5."""

    def test_where_it_begins(self):
        for width in (1, 2, 9, BIG):
            for radius in (width - 1, width, width + 1):
                if 1 <= radius <= BIG:
                    found = [(5, 0, 0)] if radius < width else []
                    self.assertEqual(checked(rule(width=width), ("bar", 1, 0, 0, 0, 1, 1, radius)), found)

    def test_bars_alone(self):
        self.assertEqual(kinds(("layers", 1), rule(width=50), ("disc", 1, 0, 0, 0, 4), ("hole", 0, 0, 0, 4),
                               ("polygon", 1, 0, box(0, 0, 9, 9))), [])

    def test_by_the_owners_class(self):
        classes = [("rule", 1, 1, 9, 0, 1), ("net", 5, 1)]
        self.assertEqual(checked(*classes, ("bar", 1, 0, 0, 0, 1, 1, 8), ("bar", 2, 5, 0, 0, 1, 1, 8),
                                 ("bar", 1, 5, 90, 0, 91, 1, 9)), [(5, 1, 1)])


class Edges(unittest.TestCase):
    """Kind 6."""

    square = ("outline", box(0, 0, 100, 100))
    # A horseshoe that is open to the top, with a notch from x 40 to 60 down to y 20.
    horseshoe = ("outline", [0, 0, 100, 0, 100, 100, 60, 100, 60, 20, 40, 20, 40, 100, 0, 100])

    def out(self, *calls):
        return [breach for breach in checked(*calls) if breach[0] == 6]

    def assertIn6(self, *calls):
        self.assertEqual(self.out(*calls), [(6, 0, 0)], calls)

    def assertOut6(self, *calls):
        self.assertEqual(self.out(*calls), [], calls)

    def test_discs_and_holes(self):
        for make in (lambda x, y, r: ("disc", 1, 0, x, y, r), lambda x, y, r: ("hole", 0, x, y, r)):
            for edge in (1, 5):
                reach = 7 + edge
                for x, y in ((reach, 50), (100 - reach, 50), (50, reach), (50, 100 - reach)):
                    self.assertOut6(rule(edge=edge), self.square, make(x, y, 7))
                    self.assertIn6(rule(edge=edge), self.square, make(x, y, 8))
                for x, y in ((reach - 1, 50), (101 - reach, 50), (50, reach - 1), (50, 101 - reach)):
                    self.assertIn6(rule(edge=edge), self.square, make(x, y, 7))
            self.assertIn6(self.square, make(500, 50, 7))
            self.assertIn6(self.square, make(0, 50, 7))
            self.assertIn6(self.square, make(0, 0, 1))

    def test_bars(self):
        self.assertOut6(self.square, ("bar", 1, 0, 6, 6, 94, 94, 5))
        self.assertIn6(self.square, ("bar", 1, 0, 5, 6, 94, 94, 5))
        self.assertIn6(self.square, ("bar", 1, 0, 6, 6, 94, 95, 5))
        self.assertIn6(self.square, ("bar", 1, 0, 50, 50, 150, 50, 5))
        self.assertIn6(self.square, ("bar", 1, 0, -50, 50, 150, 50, 5))

    def test_polygons(self):
        self.assertOut6(self.square, ("polygon", 1, 0, box(1, 1, 99, 99)))
        self.assertIn6(self.square, ("polygon", 1, 0, box(0, 1, 99, 99)))
        self.assertIn6(self.square, ("polygon", 1, 0, box(1, 1, 99, 100)))
        self.assertIn6(rule(edge=2), self.square, ("polygon", 1, 0, box(1, 1, 99, 99)))
        self.assertOut6(rule(edge=2), self.square, ("polygon", 1, 0, box(2, 2, 98, 98)))
        self.assertIn6(self.square, ("polygon", 1, 0, box(-9, -9, 109, 109)))
        self.assertIn6(self.square, ("polygon", 1, 0, box(200, 0, 300, 100)))

    def test_far_outside(self):
        for item in (("disc", 1, 0, 5000, 5000, 1), ("bar", 1, 0, 5000, 0, 5000, 9, 1), ("hole", 0, -5000, 0, 1)):
            self.assertIn6(self.square, item)

    def test_not_convex_and_the_ends_inside(self):
        self.assertIn6(self.horseshoe, ("bar", 1, 0, 20, 50, 80, 50, 1))
        self.assertIn6(self.horseshoe, ("bar", 1, 0, 20, 20, 80, 20, 1))
        self.assertOut6(self.horseshoe, ("bar", 1, 0, 20, 10, 80, 10, 9))
        self.assertIn6(self.horseshoe, ("bar", 1, 0, 20, 10, 80, 10, 10))
        self.assertIn6(self.horseshoe, ("bar", 1, 0, 20, 11, 80, 11, 9))
        self.assertOut6(self.horseshoe, ("bar", 1, 0, 20, 11, 80, 11, 8))

    def test_not_convex_and_a_polygon_round_the_notch(self):
        self.assertIn6(self.horseshoe, ("polygon", 1, 0, box(10, 10, 90, 90)))
        self.assertIn6(self.horseshoe, ("polygon", 1, 0, box(10, 10, 90, 21)))
        self.assertIn6(self.horseshoe, ("polygon", 1, 0, box(10, 10, 90, 20)))
        self.assertOut6(self.horseshoe, ("polygon", 1, 0, box(10, 10, 90, 19)))
        fitting = [1, 1, 99, 1, 99, 99, 61, 99, 61, 19, 39, 19, 39, 99, 1, 99]
        self.assertOut6(self.horseshoe, ("polygon", 1, 0, fitting))
        self.assertIn6(rule(edge=2), self.horseshoe, ("polygon", 1, 0, fitting))

    def test_not_convex_and_a_disc_in_the_notch(self):
        self.assertIn6(self.horseshoe, ("disc", 1, 0, 50, 60, 1))
        self.assertIn6(self.horseshoe, ("hole", 0, 50, 60, 9))
        self.assertOut6(self.horseshoe, ("disc", 1, 0, 20, 60, 19))
        self.assertIn6(self.horseshoe, ("disc", 1, 0, 20, 60, 20))
        self.assertIn6(self.horseshoe, ("disc", 1, 0, 21, 60, 19))

    def test_a_corner_that_points_inwards(self):
        # From 50, 35 the corner 50, 40 is 5 away, and no other point of the outline is so near.
        dent = ("outline", [0, 0, 100, 0, 100, 100, 50, 40, 0, 100])
        self.assertOut6(dent, ("disc", 1, 0, 50, 35, 4))
        self.assertIn6(dent, ("disc", 1, 0, 50, 35, 5))
        self.assertIn6(dent, ("disc", 1, 0, 50, 41, 1))

    def test_fractions(self):
        # The distance of 10, 10 from the side 30, 0 to 0, 20 squares to 10000/1300: between those of 2 and 3.
        triangle = ("outline", [0, 0, 30, 0, 0, 20])
        self.assertOut6(triangle, ("disc", 1, 0, 10, 10, 1))
        self.assertIn6(triangle, ("disc", 1, 0, 10, 10, 2))
        # The distance of 2, 2 from the side 12, 0 to 0, 5 is 26/13, just 2.
        exact = ("outline", [0, 0, 12, 0, 0, 5])
        self.assertOut6(exact, ("disc", 1, 0, 2, 2, 1))
        self.assertIn6(rule(edge=2), exact, ("disc", 1, 0, 2, 2, 1))

    def test_no_outline_no_breach(self):
        self.assertOut6(rule(edge=BIG), ("disc", 1, 0, BIG, BIG, BIG))

    def test_as_great_as_allowed(self):
        whole = ("outline", box(-BIG, -BIG, BIG, BIG))
        self.assertOut6(rule(edge=1), whole, ("disc", 1, 0, 0, 0, BIG - 1))
        self.assertIn6(rule(edge=1), whole, ("disc", 1, 0, 0, 0, BIG))
        self.assertOut6(rule(edge=BIG - 1), whole, ("disc", 1, 0, 0, 0, 1))
        self.assertIn6(rule(edge=BIG), whole, ("disc", 1, 0, 0, 0, 1))
        self.assertIn6(rule(edge=BIG - 1), whole, ("disc", 1, 0, 0, -1, 1))

    def test_the_owners_edge(self):
        classes = [("rule", 1, 1, 1, 0, 30), ("net", 5, 1), self.square]
        self.assertEqual(self.out(*classes, ("disc", 1, 0, 20, 20, 2), ("disc", 1, 5, 20, 60, 2)), [(6, 1, 1)])

    def test_each_item_by_itself(self):
        board = [self.square, ("disc", 1, 0, 0, 0, 2), ("disc", 1, 0, 50, 50, 2), ("hole", 0, 200, 0, 2),
                 ("bar", 2, 0, 0, 300, 5, 300, 2)]
        self.assertEqual(self.out(*board), [(6, 0, 0), (6, 2, 2), (6, 3, 3)])

    def test_when_the_item_or_the_outline_changes(self):
        given = talk(self.square, ("disc", 1, 0, 6, 50, 5), ("check",), ("move", 0, -1, 0), ("check",),
                     ("move", 0, 1, 0), ("check",), ("outline", box(1, 0, 100, 100)), ("check",), self.square,
                     ("check",))
        self.assertEqual(given[2::2], [[0], [1, 6, 0, 0], [0], [1, 6, 0, 0], [0]])


class Rings(unittest.TestCase):
    """Kind 7."""

    def bare(self, *calls):
        return [(a, b) for kind, a, b in checked(*calls) if kind == 7]

    def held(self, piece, hole, ring=0):
        return self.bare(("layers", 1), rule(ring=ring), piece, hole) == []

    def test_discs(self):
        for ring in (0, 1, 3):
            for at, most in ((0, 10), (4, 6), (6, 4)):
                for radius, found in ((most - ring, True), (most - ring + 1, False), (most + 20, False)):
                    hole = ("hole", 0, 7 + at, 7, radius)
                    self.assertEqual(self.held(("disc", 1, 0, 7, 7, 10), hole, ring), found, (ring, hole))

    def test_a_disc_aslant(self):
        self.assertTrue(self.held(("disc", 1, 0, 0, 0, 10), ("hole", 0, 3, 4, 5)))
        self.assertFalse(self.held(("disc", 1, 0, 0, 0, 10), ("hole", 0, 3, 4, 6)))
        self.assertFalse(self.held(("disc", 1, 0, 0, 0, 10), ("hole", 0, 4, 4, 5)))

    def test_greater_than_the_piece(self):
        # The square of r - d would be great enough, but d is more than r.
        self.assertFalse(self.held(("disc", 1, 0, 0, 0, 10), ("hole", 0, 0, 0, 30)))
        self.assertFalse(self.held(("disc", 1, 0, 0, 0, 10), ("hole", 0, 0, 0, 5), ring=6))
        self.assertTrue(self.held(("disc", 1, 0, 0, 0, 10), ("hole", 0, 0, 0, 5), ring=5))

    def test_bars(self):
        bar = ("bar", 1, 0, 0, 0, 40, 0, 10)
        for x, y, radius, found in ((0, 0, 10, True), (20, 0, 10, True), (40, 0, 10, True), (41, 0, 10, False),
                                    (41, 0, 9, True), (-1, 0, 10, False), (20, 3, 7, True), (20, 3, 8, False),
                                    (20, -4, 7, False), (43, 4, 5, True), (43, 4, 6, False)):
            self.assertEqual(self.held(bar, ("hole", 0, x, y, radius)), found, (x, y, radius))
        self.assertTrue(self.held(bar, ("hole", 0, 20, 3, 4), ring=3))
        self.assertFalse(self.held(bar, ("hole", 0, 20, 3, 4), ring=4))

    def test_bars_and_fractions(self):
        # 49/50 is a little less than 1: r - d of 1 is enough, of 0 is not.
        self.assertTrue(self.held(("bar", 1, 0, 7, 0, 0, 1, 3), ("hole", 0, 0, 0, 2)))
        self.assertFalse(self.held(("bar", 1, 0, 7, 0, 0, 1, 3), ("hole", 0, 0, 0, 3)))

    def test_polygons(self):
        square = ("polygon", 1, 0, box(0, 0, 20, 20))
        for x, y, radius, found in ((10, 10, 10, True), (10, 10, 11, False), (9, 10, 9, True), (9, 10, 10, False),
                                    (0, 10, 1, False), (1, 10, 1, True), (-5, 10, 1, False), (30, 10, 5, False),
                                    (20, 20, 1, False)):
            self.assertEqual(self.held(square, ("hole", 0, x, y, radius)), found, (x, y, radius))
        self.assertTrue(self.held(square, ("hole", 0, 10, 10, 6), ring=4))
        self.assertFalse(self.held(square, ("hole", 0, 10, 10, 6), ring=5))

    def test_polygons_that_are_not_convex(self):
        horseshoe = ("polygon", 1, 0, [0, 0, 30, 0, 30, 30, 20, 30, 20, 10, 10, 10, 10, 30, 0, 30])
        self.assertTrue(self.held(horseshoe, ("hole", 0, 5, 20, 5)))
        self.assertFalse(self.held(horseshoe, ("hole", 0, 6, 20, 5)))
        self.assertFalse(self.held(horseshoe, ("hole", 0, 15, 20, 1)))
        self.assertTrue(self.held(horseshoe, ("hole", 0, 15, 5, 5)))
        self.assertFalse(self.held(horseshoe, ("hole", 0, 15, 6, 5)))

    def test_one_piece_must_hold_it_whole(self):
        halves = [("polygon", 1, 0, box(0, 0, 10, 20)), ("polygon", 1, 0, box(10, 0, 20, 20))]
        self.assertEqual(self.bare(("layers", 1), *halves, ("hole", 0, 10, 10, 5)), [(2, 1)])
        self.assertEqual(self.bare(("layers", 1), *halves, ("disc", 1, 0, 10, 10, 5), ("hole", 0, 10, 10, 5)), [])

    def test_layer_by_layer(self):
        board = [("layers", 5), ("hole", 0, 0, 0, 3)]
        self.assertEqual(self.bare(*board), [(0, 1), (0, 2), (0, 3), (0, 4), (0, 5)])
        board += [("disc", 2, 0, 0, 0, 3), ("polygon", 4, 0, box(-3, -3, 3, 3))]
        self.assertEqual(self.bare(*board), [(0, 1), (0, 3), (0, 5)])
        board += [("bar", 5, 0, 0, 0, 9, 9, 3), ("disc", 1, 0, 0, 0, 2), ("disc", 3, 0, 1, 0, 3)]
        self.assertEqual(self.bare(*board), [(0, 1), (0, 3)])
        self.assertEqual(self.bare(*board, ("lift", 1, 3)), [(0, 1), (0, 2)])
        self.assertEqual(self.bare(*board, ("layers", 6)), [(0, 1), (0, 3), (0, 6)])
        self.assertEqual(self.bare(*board, ("remove", 2)), [(0, 1), (0, 3), (0, 4)])

    def test_of_its_owner(self):
        board = [("layers", 1), ("disc", 1, 1, 0, 0, 9), ("hole", 0, 0, 0, 3)]
        self.assertEqual(self.bare(*board), [(1, 1)])
        self.assertEqual(self.bare(*board, ("give", 0, 0)), [])

    def test_a_hole_holds_no_hole(self):
        self.assertEqual(self.bare(("layers", 1), ("hole", 0, 0, 0, 9), ("hole", 0, 0, 0, 3)), [(0, 1), (1, 1)])

    def test_the_owners_ring(self):
        board = [("layers", 1), ("rule", 1, 1, 1, 4, 1), ("net", 5, 1), ("disc", 1, 0, 0, 0, 5), ("hole", 0, 0, 0, 3),
                 ("disc", 1, 5, 90, 0, 5), ("hole", 5, 90, 0, 3)]
        self.assertEqual(self.bare(*board), [(3, 1)])

    def test_as_great_as_allowed(self):
        whole = ("polygon", 1, 0, box(-BIG, -BIG, BIG, BIG))
        self.assertTrue(self.held(whole, ("hole", 0, 0, 0, BIG)))
        self.assertFalse(self.held(whole, ("hole", 0, 0, 1, BIG)))
        self.assertFalse(self.held(whole, ("hole", 0, 0, 0, BIG), ring=BIG))
        self.assertTrue(self.held(("disc", 1, 0, BIG, BIG, BIG), ("hole", 0, BIG, BIG, BIG)))
        self.assertFalse(self.held(("disc", 1, 0, BIG, BIG, BIG), ("hole", 0, BIG, BIG - 1, BIG)))


class Check(unittest.TestCase):
    def test_nothing(self):
        self.assertEqual(last(("check",)), [0])

    def test_by_kind_then_a_then_b(self):
        self.assertEqual(checked(*ALL_KINDS), ALL_FOUND)

    def test_numbers_of_two_digits_are_ordered_as_numbers(self):
        board = [("disc", 1, k, 0, 0, 5) for k in range(12)]
        self.assertEqual(checked(*board), [(1, a, b) for a in range(12) for b in range(a + 1, 12)])

    def test_nothing_is_changed_by_checks(self):
        calls = [("check",), ("check_one", 0), ("would_disc", 1, 9, 0, 0, 5), ("items",)]
        given = talk(*ALL_KINDS, *calls, *calls)
        start = len(ALL_KINDS)
        self.assertEqual(given[start:start + 4], given[start + 4:])

    def test_as_many_as_there_can_be(self):
        board = [("disc", 1, k, 0, 0, 5) for k in range(128)]
        answer = last(*board, ("check",))
        self.assertEqual(answer[0], 128 * 127 // 2)
        self.assertEqual(len(answer), 1 + 3 * answer[0])

    def test_after_each_change(self):
        board = [("disc", 1, 0, 0, 0, 5), ("disc", 1, 1, 20, 0, 5), ("check",)]
        changes = [(("disc", 1, 2, 9, 0, 5), [(1, 0, 2)]), (("move", 2, 1, 0), [(1, 0, 2), (1, 1, 2)]),
                   (("remove", 1), [(1, 0, 2)]), (("give", 0, 2), []), (("give", 0, 9), [(1, 0, 2)]),
                   (("lift", 2, 2), []), (("lift", 0, 2), [(1, 0, 2)]), (("move", 0, -5, 0), []),
                   (("rule", 0, 6, 1, 0, 1), [(2, 0, 2)]), (("net", 9, 3), [(2, 0, 2)]), (("net", 2, 3), []),
                   (("hole", 2, 10, 0, 5), [(7, 3, 1)]),
                   (("hole", 2, 30, 0, 5), [(7, 3, 1), (7, 4, 1), (7, 4, 2)]),
                   (("hole_gap", 11), [(4, 3, 4), (7, 3, 1), (7, 4, 1), (7, 4, 2)])]
        calls = list(board)
        for change, found in changes:
            calls += [change, ("check",)]
            self.assertEqual(triples(last(*calls)), found, change)


class CheckOne(unittest.TestCase):
    def test_those_in_which_it_is_concerned(self):
        for number in range(8):
            found = triples(last(*ALL_KINDS, ("check_one", number)))
            wanted = [t for t in ALL_FOUND if t[1] == number or (t[2] == number and t[0] <= 4)]
            self.assertEqual(found, wanted, number)

    def test_a_layer_is_no_item(self):
        board = [("hole", 0, 0, 0, 3), ("disc", 1, 0, 50, 0, 3), ("disc", 1, 0, 70, 0, 3)]
        self.assertEqual(last(*board, ("check_one", 0)), [2, 7, 0, 1, 7, 0, 2])
        self.assertEqual(last(*board, ("check_one", 1)), [0])
        self.assertEqual(last(*board, ("check_one", 2)), [0])

    def test_one_breach_of_one_item_stands_once(self):
        self.assertEqual(last(rule(width=9), ("bar", 1, 0, 0, 0, 5, 0, 2), ("check_one", 0)), [1, 5, 0, 0])

    def test_no_such_item(self):
        for number in (-1, 8, -2147483648, 2147483647):
            self.assertEqual(last(*ALL_KINDS, ("check_one", number)), [-1])
        self.assertEqual(last(*ALL_KINDS, ("remove", 3), ("check_one", 3)), [-1])
        self.assertEqual(last(("check_one", 0)), [-1])


class WouldDisc(unittest.TestCase):
    def test_as_if_put_on(self):
        for layer in (1, 2):
            for owner in range(4):
                for x, y, r in ((0, 0, 9), (-45, 3, 2), (97, 0, 1), (96, 0, 1), (14, 0, 1), (60, 60, 5), (500, 0, 1)):
                    told = (layer, owner, x, y, r)
                    would = last(*ALL_KINDS, ("would_disc", *told))
                    self.assertEqual(would, last(*ALL_KINDS, ("disc", *told), ("check_one", 8)), told)

    def test_what_it_would_break(self):
        self.assertEqual(triples(last(*ALL_KINDS, ("would_disc", 1, 9, 0, 0, 2))),
                         [(1, 2, 8), (3, 0, 8)])
        self.assertEqual(triples(last(*ALL_KINDS, ("would_disc", 1, 9, 0, 0, 3))),
                         [(1, 2, 8), (2, 7, 8), (3, 0, 8), (3, 1, 8)])
        self.assertEqual(triples(last(*ALL_KINDS, ("would_disc", 2, 9, 97, 0, 3))), [(1, 6, 8), (6, 8, 8)])

    def test_the_number_that_it_would_have(self):
        board = [("disc", 1, 0, 0, 0, 5), ("disc", 1, 0, 50, 0, 5), ("disc", 1, 0, 90, 0, 5), ("remove", 2)]
        self.assertEqual(last(*board, ("would_disc", 1, 1, 0, 0, 5)), [1, 1, 0, 3])

    def test_rings_of_holes_are_not_its_breaches(self):
        self.assertEqual(last(("hole", 0, 0, 0, 5), ("would_disc", 1, 0, 0, 0, 5)), [0])
        self.assertEqual(last(("hole", 0, 0, 0, 5), ("would_disc", 1, 0, 40, 0, 5)), [0])

    def test_nothing_changes(self):
        given = talk(("disc", 1, 0, 0, 0, 5), ("would_disc", 1, 1, 0, 0, 5), ("items",), ("check",),
                     ("would_disc", 1, 1, 30, 0, 5), ("disc", 1, 1, 11, 0, 5), ("check",))
        self.assertEqual(given[1:], [[1, 1, 0, 1], [1, 0, 0, 1, 5, 1, 0, 0], [0], [0], [1], [0]])

    def test_two_that_would_be_are_not_taken_for_one_another(self):
        given = talk(("disc", 1, 0, 0, 0, 5), ("would_disc", 1, 1, 0, 0, 5), ("would_disc", 1, 1, 11, 0, 5),
                     ("would_disc", 1, 1, 10, 0, 5), ("disc", 1, 1, 11, 0, 5), ("check",))
        self.assertEqual(given[1:], [[1, 1, 0, 1], [0], [1, 1, 0, 1], [1], [0]])


if __name__ == "__main__":
    unittest.main()
