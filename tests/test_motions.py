"""shift all, turn all, flip all: every point of items and outline; numbers, waivers and what was marked stay."""

import unittest

from tests.boards import ALL_FOUND, ALL_KINDS, box, rule
from tests.talk import BIG, INT_HIGH, INT_LOW, Same, checked, last, listed, talk, triples

BOARD = [
    ("layers", 5),
    ("disc", 1, 3, 2, 7, 4),
    ("bar", 2, 4, 1, 2, 5, 9, 3),
    ("polygon", 5, 5, [0, 0, 10, 0, 10, 4, 3, 9]),
    ("hole", 6, -8, 3, 2),
]
MOTIONS = [("shift_all", 13, -7), ("turn_all", 1), ("turn_all", 2), ("turn_all", 3), ("turn_all", -1), ("flip_all",)]


def points(*calls):
    return [item[4] for item in listed(*calls)]


def heads(*calls):
    """Number, owner, layer, radius of each item."""
    return [item[:4] for item in listed(*calls)]


class ShiftAll(Same):
    def test_items(self):
        self.assertEqual(points(*BOARD, ("shift_all", 100, -20)), [
            [(102, -13)], [(101, -18), (105, -11)], [(100, -20), (110, -20), (110, -16), (103, -11)], [(92, -17)]])
        self.assertEqual(heads(*BOARD, ("shift_all", 100, -20)), heads(*BOARD))
        self.assertEqual(last(*BOARD, ("shift_all", 0, 0)), [0])

    def test_the_outline_goes_along(self):
        board = [("outline", box(0, 0, 100, 100)), ("disc", 1, 0, 6, 50, 5)]
        self.assertEqual(checked(*board, ("shift_all", 5000, -300)), [])
        self.assertEqual(checked(*board, ("shift_all", 5000, -300), ("move", 0, -1, 0)), [(6, 0, 0)])
        self.assertEqual(last(*board, ("shift_all", 5000, -300), ("would_disc", 1, 0, 5050, -250, 5)), [0])
        self.assertEqual(last(*board, ("shift_all", 5000, -300), ("would_disc", 1, 0, 50, 50, 5)), [1, 6, 1, 1])

    def test_up_to_the_edge_of_the_range(self):
        board = [("bar", 1, 0, -BIG + 5, 0, BIG - 7, 3, 2), ("hole", 0, 0, BIG - 1, 1), ("disc", 1, 0, 0, -BIG + 2, 9)]
        for dx, dy in ((7, 0), (-5, 0), (0, 1), (0, -2), (7, 1), (-5, -2)):
            self.assertEqual(last(*board, ("shift_all", dx, dy)), [0])
        for dx, dy in ((8, 0), (-6, 0), (0, 2), (0, -3), (8, 2), (INT_LOW, 0), (INT_HIGH, 0), (0, INT_LOW),
                       (0, INT_HIGH), (BIG, BIG)):
            self.assertRefused(board, ("shift_all", dx, dy), -2)

    def test_from_one_edge_to_the_other(self):
        self.assertEqual(points(("disc", 1, 0, -BIG, BIG, 1), ("shift_all", 2 * BIG, -2 * BIG)), [[(BIG, -BIG)]])
        self.assertEqual(last(("disc", 1, 0, -BIG, BIG, 1), ("shift_all", 2 * BIG + 1, 0)), [-2])
        self.assertEqual(last(("disc", 1, 0, -BIG, BIG, 1), ("shift_all", 0, -2 * BIG - 1)), [-2])

    def test_the_radius_does_not_matter(self):
        self.assertEqual(last(("disc", 1, 0, 0, 0, BIG), ("shift_all", BIG, BIG)), [0])

    def test_an_outline_out_of_range(self):
        board = [("disc", 1, 0, 0, 0, 5), ("outline", box(-BIG, -50, 100, BIG))]
        for dx, dy in ((-1, 0), (0, 1), (-1, 1), (BIG - 99, 0), (0, -BIG + 49)):
            self.assertRefused(board, ("shift_all", dx, dy), -2)
        for dx, dy in ((1, 0), (0, -1), (BIG - 100, 0), (0, -BIG + 50)):
            self.assertEqual(last(*board, ("shift_all", dx, dy)), [0])
        self.assertEqual(last(*board, ("outline", []), ("shift_all", -1, 0)), [0])

    def test_polygons_out_of_range(self):
        board = [("polygon", 1, 0, [0, 0, 10, 0, 5, 10])]
        self.assertEqual(last(*board, ("shift_all", BIG - 10, BIG - 10)), [0])
        self.assertRefused(board, ("shift_all", BIG - 9, 0), -2)
        self.assertRefused(board, ("shift_all", 0, BIG - 9), -2)

    def test_items_that_are_gone_do_not_matter(self):
        board = [("disc", 1, 0, BIG, 0, 5), ("disc", 1, 0, 0, 0, 5), ("remove", 0)]
        self.assertEqual(last(*board, ("shift_all", 5, 0)), [0])

    def test_nothing_there(self):
        self.assertEqual(last(("shift_all", INT_HIGH, INT_LOW)), [0])


class TurnAll(unittest.TestCase):
    def test_once(self):
        self.assertEqual(points(*BOARD, ("turn_all", 1)), [
            [(-7, 2)], [(-2, 1), (-9, 5)], [(0, 0), (0, 10), (-4, 10), (-9, 3)], [(-3, -8)]])

    def test_twice(self):
        self.assertEqual(points(*BOARD, ("turn_all", 2)), [
            [(-2, -7)], [(-5, -9), (-1, -2)], [(-3, -9), (0, 0), (-10, 0), (-10, -4)], [(8, -3)]])

    def test_three_times(self):
        self.assertEqual(points(*BOARD, ("turn_all", 3)), [
            [(7, -2)], [(9, -5), (2, -1)], [(0, -10), (4, -10), (9, -3), (0, 0)], [(3, 8)]])

    def test_by_the_remainder(self):
        for k in range(-13, 14):
            self.assertEqual(points(*BOARD, ("turn_all", k)), points(*BOARD, *[("turn_all", 1)] * (k % 4)), k)
        for k, n in ((INT_LOW, 0), (INT_LOW + 1, 1), (INT_HIGH, 3), (INT_HIGH - 1, 2), (-1, 3), (-2, 2), (-3, 1),
                     (-4, 0), (4, 0), (5, 1), (0, 0)):
            self.assertEqual(last(*BOARD, ("turn_all", k)), [0])
            self.assertEqual(points(*BOARD, ("turn_all", k)), points(*BOARD, ("turn_all", n)), k)

    def test_all_round(self):
        self.assertEqual(listed(*BOARD, *[("turn_all", 1)] * 4), listed(*BOARD))
        self.assertEqual(listed(*BOARD, ("turn_all", 3), ("turn_all", -3)), listed(*BOARD))

    def test_all_else_stays(self):
        for k in range(4):
            self.assertEqual(heads(*BOARD, ("turn_all", k)), heads(*BOARD))

    def test_the_outline_goes_along(self):
        board = [("outline", box(0, 0, 100, 40)), ("disc", 1, 0, 94, 6, 5), ("turn_all", 1)]
        self.assertEqual(points(*board), [[(-6, 94)]])
        self.assertEqual(checked(*board), [])
        self.assertEqual(checked(*board, ("move", 0, 0, 1)), [(6, 0, 0)])
        self.assertEqual(checked(*board, ("move", 0, 1, 0)), [(6, 0, 0)])
        self.assertEqual(checked(*board, ("move", 0, -28, 0)), [])
        self.assertEqual(checked(*board, ("move", 0, -29, 0)), [(6, 0, 0)])

    def test_at_the_edge_of_the_range(self):
        corners = [(-BIG, -BIG), (BIG, -BIG), (BIG, BIG), (-BIG, BIG)]
        board = [("outline", box(-BIG, -BIG, BIG, BIG)), ("polygon", 1, 0, box(-BIG, -BIG, BIG, BIG)),
                 ("disc", 1, 0, -BIG, BIG - 1, 1)]
        self.assertEqual(points(*board, ("turn_all", 1)), [corners, [(1 - BIG, -BIG)]])
        self.assertEqual(points(*board, ("turn_all", 2)), [corners, [(BIG, 1 - BIG)]])
        self.assertEqual(points(*board, ("turn_all", 3)), [corners, [(BIG - 1, BIG)]])

    def test_nothing_there(self):
        self.assertEqual(talk(("turn_all", 3), ("items",)), [[0], [0]])


class FlipAll(unittest.TestCase):
    def test_items(self):
        self.assertEqual(points(*BOARD, ("flip_all",)), [
            [(-2, 7)], [(-1, 2), (-5, 9)], [(-10, 0), (0, 0), (-3, 9), (-10, 4)], [(8, 3)]])
        self.assertEqual(last(*BOARD, ("flip_all",)), [0])

    def test_layers(self):
        self.assertEqual(heads(*BOARD, ("flip_all",)), [(0, 3, 5, 4), (1, 4, 4, 3), (2, 5, 1, 0), (3, 6, 0, 2)])
        for count in range(1, 9):
            board = [("layers", count)] + [("disc", k, 0, 0, 0, 1) for k in range(1, count + 1)]
            self.assertEqual([item[2] for item in listed(*board, ("flip_all",))], list(range(count, 0, -1)))

    def test_by_how_many_layers_there_are_now(self):
        board = [("layers", 8), ("disc", 2, 0, 0, 0, 1), ("layers", 3), ("flip_all",)]
        self.assertEqual([item[2] for item in listed(*board)], [2])
        self.assertEqual([item[2] for item in listed(*board, ("layers", 6), ("flip_all",))], [5])
        self.assertEqual([item[2] for item in listed(("disc", 1, 0, 0, 0, 1), ("flip_all",))], [2])

    def test_twice_is_as_before(self):
        self.assertEqual(listed(*BOARD, ("flip_all",), ("flip_all",)), listed(*BOARD))

    def test_the_outline_goes_along(self):
        board = [("outline", box(0, 0, 100, 40)), ("disc", 1, 0, 94, 6, 5), ("flip_all",)]
        self.assertEqual(checked(*board), [])
        self.assertEqual(checked(*board, ("move", 0, -1, 0)), [(6, 0, 0)])
        self.assertEqual(checked(*board, ("move", 0, 88, 0)), [])
        self.assertEqual(checked(*board, ("move", 0, 89, 0)), [(6, 0, 0)])

    def test_at_the_edge_of_the_range(self):
        board = [("bar", 1, 0, -BIG, BIG, BIG, BIG, 1), ("hole", 0, BIG, -BIG, 1), ("flip_all",)]
        self.assertEqual(points(*board), [[(-BIG, BIG), (BIG, BIG)], [(-BIG, -BIG)]])

    def test_rings_are_asked_on_the_new_layers(self):
        board = [("layers", 3), ("hole", 0, 7, 7, 2), ("disc", 1, 0, 7, 7, 9)]
        self.assertEqual(checked(*board), [(7, 0, 2), (7, 0, 3)])
        self.assertEqual(checked(*board, ("flip_all",)), [(7, 0, 1), (7, 0, 2)])
        given = talk(*board, ("check",), ("flip_all",), ("check",), ("flip_all",), ("check",))
        self.assertEqual([triples(answer) for answer in given[3::2]],
                         [[(7, 0, 2), (7, 0, 3)], [(7, 0, 1), (7, 0, 2)], [(7, 0, 2), (7, 0, 3)]])

    def test_nothing_there(self):
        self.assertEqual(talk(("flip_all",), ("items",)), [[0], [0]])


class OneForm(unittest.TestCase):
    shapes = [[(0, 0), (9, 0)], [(0, 0), (0, 9)], [(-3, -4), (5, 6)], [(3, -4), (-5, 6)],
              [(0, 0), (10, 0), (10, 10), (5, 1), (0, 10)], [(-4, 0), (3, 0), (3, 5)],
              [(0, 0), (1, 5), (2, 0), (3, 5), (4, 0), (4, 9), (0, 9)],
              [(0, 0), (4, 0), (8, 0), (8, 8), (4, 8), (0, 8), (0, 4)], [(-BIG, -BIG), (BIG, BIG - 1), (BIG, BIG)]]

    def put_on(self, shape):
        if len(shape) == 2:
            return ("bar", 1, 0, *shape[0], *shape[1], 2)
        return ("polygon", 1, 0, [v for p in shape for v in p])

    def test_as_if_put_on_so(self):
        changes = [(("turn_all", 1), lambda x, y: (-y, x)), (("turn_all", 2), lambda x, y: (-x, -y)),
                   (("turn_all", 3), lambda x, y: (y, -x)), (("flip_all",), lambda x, y: (-x, y))]
        for shape in self.shapes:
            for call, change in changes:
                put = self.put_on([change(x, y) for x, y in shape])
                self.assertEqual(points(self.put_on(shape), call), points(put), (shape, call))
            if shape[0] != (-BIG, -BIG):
                put = self.put_on([(x - 3, y + 8) for x, y in shape])
                self.assertEqual(points(self.put_on(shape), ("shift_all", -3, 8)), points(put))

    def test_a_level_bar(self):
        self.assertEqual(points(("bar", 1, 0, 2, 5, 9, 5, 1), ("flip_all",)), [[(-9, 5), (-2, 5)]])
        self.assertEqual(points(("bar", 1, 0, 2, 5, 9, 5, 1), ("turn_all", 2)), [[(-9, -5), (-2, -5)]])
        self.assertEqual(points(("bar", 1, 0, 5, 2, 5, 9, 1), ("turn_all", 1)), [[(-9, 5), (-2, 5)]])

    def test_several_lowest_corners(self):
        board = [("polygon", 1, 0, [0, 0, 1, 5, 2, 0, 3, 5, 4, 0, 4, 9, 0, 9]), ("flip_all",)]
        self.assertEqual(points(*board), [[(-4, 0), (-3, 5), (-2, 0), (-1, 5), (0, 0), (0, 9), (-4, 9)]])


class WhatStays(unittest.TestCase):
    def test_breaches_of_pairs_widths_and_edges(self):
        most = [t for t in ALL_FOUND if t[0] < 7]
        for motion in MOTIONS:
            given = talk(*ALL_KINDS, ("check",), motion, ("check",), motion, ("check",))
            for answer in given[len(ALL_KINDS)::2]:
                self.assertEqual([t for t in triples(answer) if t[0] < 7], most, motion)
            self.assertEqual([t for t in checked(*ALL_KINDS, motion) if t[0] < 7], most, motion)

    def test_measures(self):
        asked = [("room", 3, 6), ("distance", 3, 6), ("distance", 4, 5), ("worst",), ("narrowest",)]
        for motion in MOTIONS:
            self.assertEqual(talk(*ALL_KINDS, motion, *asked)[-5:], talk(*ALL_KINDS, *asked)[-5:])
            self.assertEqual(talk(*ALL_KINDS, *asked, motion, *asked)[-5:], talk(*ALL_KINDS, *asked)[-5:])

    def test_measures_with_what_comes_behind_are_new(self):
        for motion in MOTIONS:
            board = [("layers", 1), ("disc", 1, 0, 0, 0, 5), ("disc", 1, 1, 30, 0, 5), ("outline", box(-9, -9, 99, 9)),
                     ("check",), motion]
            moved = points(*board)[1][0]
            given = talk(*board, ("disc", 1, 2, *moved, 5), ("check_one", 2), ("move", 0, moved[0], moved[1]),
                         ("outline", box(-9, -9, 99, 9)), ("check",), ("worst",))
            again = [("layers", 1), ("disc", 1, 0, *points(*board)[0][0], 5), ("disc", 1, 1, *moved, 5),
                     ("disc", 1, 2, *moved, 5), ("check_one", 2), ("move", 0, moved[0], moved[1]),
                     ("outline", box(-9, -9, 99, 9)), ("check",), ("worst",)]
            self.assertEqual(given[-5:], talk(*again)[-5:], motion)

    def test_numbers(self):
        for motion in MOTIONS:
            board = [*BOARD, ("remove", 1), motion]
            self.assertEqual([item[0] for item in listed(*board)], [0, 2, 3])
            self.assertEqual(last(*board, ("disc", 1, 0, 0, 0, 1)), [4])

    def test_waivers(self):
        waived = [(1, 2, 7), (3, 0, 7), (5, 3, 3), (6, 6, 6)]
        for motion in MOTIONS:
            board = [*ALL_KINDS, *[("waive", *breach) for breach in waived], motion]
            self.assertEqual(triples(last(*board, ("waivers",))), waived)
            self.assertEqual([t for t in checked(*board) if t[0] < 7],
                             [t for t in ALL_FOUND if t[0] < 7 and t not in waived])

    def test_waivers_of_rings_stay_with_the_layer_they_name(self):
        board = [("layers", 3), ("hole", 0, 7, 7, 2), ("disc", 1, 0, 7, 7, 9), ("waive", 7, 0, 3), ("flip_all",)]
        self.assertEqual(talk(*board, ("waivers",), ("check",))[-2:], [[1, 7, 0, 3], [2, 7, 0, 1, 7, 0, 2]])
        self.assertEqual(last(*board, ("waive", 7, 0, 3)), [-6])

    def test_marks(self):
        for motion in MOTIONS[:-1]:
            given = talk(*ALL_KINDS, ("mark",), motion, ("news",), ("gone",))
            self.assertEqual(given[-3:], [[0], [0], [0]], motion)
        board = [("layers", 3), ("hole", 0, 7, 7, 2), ("disc", 1, 0, 7, 7, 9), ("mark",), ("flip_all",)]
        self.assertEqual(talk(*board, ("news",), ("gone",))[-2:], [[1, 7, 0, 1], [1, 7, 0, 3]])

    def test_no_mark_is_made(self):
        for motion in MOTIONS:
            given = talk(*ALL_KINDS, motion, ("news",), ("gone",), ("check",))
            self.assertEqual(given[-3], given[-1])
            self.assertEqual(given[-2], [0])

    def test_rules(self):
        board = [rule(gap=4), ("hole_gap", 9), ("net", 1, 0), ("disc", 1, 0, 0, 0, 5), ("disc", 1, 1, 13, 0, 5)]
        for motion in MOTIONS:
            self.assertEqual(checked(*board, motion), [(2, 0, 1)])
            self.assertEqual(last(*BOARD, motion, ("disc", 6, 0, 0, 0, 1)), [-2])
            self.assertEqual(last(*BOARD, motion, ("disc", 5, 0, 0, 0, 1)), [4])


if __name__ == "__main__":
    unittest.main()
