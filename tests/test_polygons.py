"""Which rows are polygons, and the one form of shapes."""

import unittest

from tests.talk import BIG, INT_HIGH, INT_LOW, last, listed


def comb(count, step=10):
    """A simple polygon of count corners: a flat bottom, and a top that goes to and fro."""
    tops = [(k * step, 50 + (k % 2) * 7) for k in range(count - 2)]
    return [(0, 0), ((count - 3) * step, 0)] + tops[::-1]


def row_of(corners):
    return [v for p in corners for v in p]


class Rows(unittest.TestCase):
    def taken(self, *corners):
        return self.row_taken(row_of(corners))

    def row_taken(self, row):
        piece = last(("polygon", 1, 0, row))
        edge = last(("outline", row))
        self.assertIn((piece, edge), (([0], [0]), ([-3], [-3])), row)
        return piece == [0]

    def in_all_turns(self, corners):
        ways = [list(corners), list(corners)[::-1]]
        return [self.taken(*(way[k:] + way[:k])) for way in ways for k in range(len(corners))]

    def assertTaken(self, *corners):
        self.assertEqual(set(self.in_all_turns(corners)), {True}, corners)

    def assertRefused(self, *corners):
        self.assertEqual(set(self.in_all_turns(corners)), {False}, corners)

    def test_plain_ones(self):
        self.assertTaken((0, 0), (1, 0), (0, 1))
        self.assertTaken((0, 0), (4, 0), (4, 4), (0, 4))
        self.assertTaken((0, 0), (10, 0), (10, 10), (5, 1), (0, 10))

    def test_an_empty_row(self):
        self.assertEqual(last(("polygon", 1, 0, [])), [-3])
        self.assertEqual(last(("outline", [])), [0])

    def test_odd_counts(self):
        self.assertFalse(self.row_taken([0]))
        self.assertFalse(self.row_taken([0, 0, 9, 0, 0]))
        self.assertFalse(self.row_taken([0, 0, 9, 0, 0, 9, 5]))
        self.assertFalse(self.row_taken([0, 0, 9, 0, 9, 9, 0, 9, 4]))
        self.assertFalse(self.row_taken(row_of(comb(32)) + [1]))

    def test_three_to_thirty_two_corners(self):
        self.assertFalse(self.taken((0, 0)))
        self.assertFalse(self.taken((0, 0), (5, 5)))
        for count in (4, 5, 31, 32):
            self.assertTrue(self.taken(*comb(count)), count)
        for count in (33, 34, 100):
            self.assertFalse(self.taken(*comb(count)), count)
        self.assertFalse(self.row_taken([1] * 10000))
        self.assertFalse(self.row_taken(row_of([(k, k * k) for k in range(5000)])))

    def test_points_in_range(self):
        self.assertTaken((-BIG, -BIG), (BIG, -BIG), (BIG, BIG), (-BIG, BIG))
        for beyond in (BIG + 1, -BIG - 1, INT_LOW, INT_HIGH):
            self.assertRefused((0, 0), (beyond, 0), (7, 9))
            self.assertRefused((0, 0), (7, beyond), (-7, 9))

    def test_equal_corners_that_follow_one_another(self):
        self.assertRefused((0, 0), (0, 0), (9, 0), (0, 9))
        self.assertRefused((0, 0), (9, 0), (9, 0), (0, 9))
        self.assertRefused((0, 0), (9, 0), (0, 9), (0, 0))
        self.assertRefused((3, 3), (3, 3), (3, 3))
        self.assertRefused((0, 0), (0, 0), (9, 0))

    def test_equal_corners_that_do_not_follow_one_another(self):
        self.assertRefused((0, 0), (9, 0), (9, 9), (0, 0), (-9, -9), (-9, 0))
        self.assertRefused((0, 0), (5, 0), (0, 0), (0, 5))

    def test_corners_straight_between_their_neighbours(self):
        self.assertTaken((0, 0), (5, 0), (9, 0), (0, 9))
        self.assertTaken((0, 0), (2, 0), (5, 0), (9, 0), (0, 9), (0, 4))
        self.assertTaken((0, 0), (2, 4), (3, 6), (-5, 5))

    def test_all_on_one_line(self):
        self.assertRefused((0, 0), (5, 0), (9, 0))
        self.assertRefused((0, 0), (0, 5), (0, 9))
        self.assertRefused((0, 0), (2, 2), (5, 5), (3, 3))
        self.assertRefused((-BIG, -BIG), (0, 0), (BIG, BIG))

    def test_sides_that_cross(self):
        self.assertRefused((0, 0), (10, 10), (10, 0), (0, 10))
        self.assertRefused((0, 0), (10, 0), (10, 10), (5, -5), (0, 10))

    def test_sides_that_touch(self):
        self.assertRefused((0, 0), (10, 0), (10, 10), (5, 0), (0, 10))
        self.assertTaken((0, 0), (10, 0), (10, 10), (5, 1), (0, 10))
        self.assertRefused((0, 0), (10, 0), (10, 10), (0, 0), (-5, 5))
        self.assertRefused((0, 0), (4, 0), (4, 4), (6, 4), (6, 0), (10, 0), (10, 8), (5, 4), (0, 8))

    def test_sides_that_lie_upon_one_another(self):
        self.assertRefused((0, 0), (10, 0), (10, 5), (12, 5), (12, 0), (5, 0), (5, -5), (0, -5))
        self.assertRefused((0, 0), (4, 0), (4, 4), (8, 4), (8, 0), (2, 0), (2, -4))

    def test_sides_that_fold_back(self):
        self.assertRefused((0, 0), (10, 0), (5, 0), (5, 9))
        self.assertRefused((0, 0), (10, 0), (-5, 0), (5, 9))
        self.assertRefused((0, 0), (9, 0), (9, 9), (4, 4), (9, 9), (0, 9))
        self.assertRefused((0, 0), (9, 0), (9, 9), (6, 6), (20, 20), (0, 9))

    def test_the_last_and_the_first_side(self):
        self.assertFalse(self.taken((5, 0), (9, 0), (9, 9), (7, 0)))
        self.assertFalse(self.taken((0, 0), (9, 0), (9, 9), (3, 0)))
        self.assertFalse(self.taken((0, 0), (3, 0), (3, 5), (9, 0)))
        self.assertFalse(self.taken((0, 0), (10, 0), (10, 10), (4, -4)))
        self.assertTrue(self.taken((5, 0), (9, 0), (9, 9), (0, 9), (0, 0)))

    def test_crossings_by_a_hair_at_great_distances(self):
        self.assertTaken((-BIG, -BIG), (BIG, BIG - 1), (BIG, BIG), (-BIG, 1 - BIG))
        self.assertTaken((-BIG, -BIG), (BIG, BIG - 1), (BIG - 1, BIG), (0, 0))
        self.assertRefused((-BIG, -BIG), (BIG, BIG), (BIG, BIG - 1), (0, 0))
        self.assertTaken((-BIG, -BIG), (BIG, BIG), (BIG, BIG - 1), (1, 0))
        self.assertRefused((-BIG, -BIG), (BIG, BIG), (BIG, BIG - 1), (0, 1))


class OneForm(unittest.TestCase):
    def points(self, *call):
        return listed(call)[0][4]

    def test_bars(self):
        for a, b in (((0, 0), (1, 1)), ((5, 0), (-5, 1)), ((-5, 3), (5, 3)), ((7, -2), (7, 9)),
                     ((BIG, -BIG), (-BIG, BIG)), ((-BIG, 0), (BIG, 0)), ((1, 0), (0, 1))):
            self.assertEqual(self.points("bar", 1, 0, *a, *b, 3), [a, b])
            self.assertEqual(self.points("bar", 1, 0, *b, *a, 3), [a, b])

    def hold(self, form):
        ways = [form, form[::-1]]
        for way in ways:
            for k in range(len(form)):
                row = row_of(way[k:] + way[:k])
                self.assertEqual(self.points("polygon", 1, 0, row), form, row)

    def test_polygons_from_any_corner_either_way(self):
        self.hold([(5, -3), (9, 9), (0, 4)])
        self.hold([(0, 0), (10, 0), (10, 10), (5, 1), (0, 10)])
        self.hold([(-BIG, -BIG), (BIG, -BIG), (BIG, BIG), (-BIG, BIG)])

    def test_several_lowest_corners(self):
        self.hold([(-4, 0), (3, 0), (3, 5)])
        self.hold([(-4, 0), (-1, 3), (3, 0), (3, 8), (-4, 8)])
        self.hold([(0, 0), (1, 5), (2, 0), (3, 5), (4, 0), (4, 9), (0, 9)])

    def test_corners_straight_between_stay(self):
        self.hold([(0, 0), (4, 0), (8, 0), (8, 8), (4, 8), (0, 8), (0, 4)])

    def test_thin_ones_are_turned_rightly(self):
        self.hold([(-BIG, -BIG), (BIG, BIG - 1), (BIG, BIG)])


if __name__ == "__main__":
    unittest.main()
