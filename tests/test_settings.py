"""layers, rule, net, hole gap, outline: what they change, and their refusals."""

import unittest

from tests.talk import BIG, INT_HIGH, INT_LOW, checked, kinds, last, talk

SQUARE = [0, 0, 100, 0, 100, 100, 0, 100]


class Layers(unittest.TestCase):
    def levels(self, *calls):
        return [b for kind, a, b in checked(*calls, ("hole", 0, 0, 0, 1))]

    def test_two_at_first(self):
        self.assertEqual(self.levels(), [1, 2])
        self.assertEqual(talk(("disc", 2, 0, 0, 0, 1), ("disc", 3, 0, 0, 0, 1)), [[0], [-2]])

    def test_one_to_eight(self):
        for k in (1, 2, 7, 8):
            self.assertEqual(last(("layers", k)), [0])
            self.assertEqual(self.levels(("layers", k)), list(range(1, k + 1)))
            self.assertEqual(talk(("layers", k), ("disc", k, 0, 0, 0, 1), ("disc", k + 1, 0, 0, 0, 1))[1:], [[0], [-2]])

    def test_refused_beyond_bounds(self):
        for k in (INT_LOW, -1, 0, 9, INT_HIGH):
            self.assertEqual(last(("layers", k)), [-2])
            self.assertEqual(self.levels(("layers", k)), [1, 2])

    def test_refused_under_a_piece(self):
        board = [("layers", 5), ("disc", 4, 0, 0, 0, 1)]
        self.assertEqual(last(*board, ("layers", 3)), [-2])
        self.assertEqual(last(*board, ("layers", 3), ("disc", 5, 0, 0, 0, 1)), [1])
        self.assertEqual(last(*board, ("layers", 4)), [0])
        self.assertEqual(last(*board, ("layers", 4), ("disc", 5, 0, 0, 0, 1)), [-2])
        self.assertEqual(last(*board, ("remove", 0), ("layers", 1)), [0])
        self.assertEqual(last(*board, ("lift", 0, 2), ("layers", 2)), [0])

    def test_holes_lie_on_no_layer(self):
        self.assertEqual(last(("layers", 8), ("hole", 0, 0, 0, 1), ("layers", 1)), [0])


class Rules(unittest.TestCase):
    gap_board = [("disc", 1, 0, 0, 0, 1), ("disc", 1, 1, 12, 0, 1)]

    def test_at_first(self):
        self.assertEqual(kinds(("disc", 1, 0, 0, 0, 1), ("disc", 1, 1, 3, 0, 1)), [])
        self.assertEqual(kinds(("bar", 1, 0, 0, 0, 5, 0, 1)), [])
        self.assertEqual(kinds(("layers", 1), ("disc", 1, 0, 0, 0, 5), ("hole", 0, 0, 0, 5)), [])
        self.assertEqual(kinds(("layers", 1), ("disc", 1, 0, 0, 0, 5), ("hole", 0, 0, 0, 6)), [7])
        self.assertEqual(kinds(("outline", SQUARE), ("disc", 1, 0, 50, 6, 5)), [])
        self.assertEqual(kinds(("outline", SQUARE), ("disc", 1, 0, 50, 5, 5)), [6])

    def test_each_of_the_four_takes_hold(self):
        self.assertEqual(kinds(("rule", 0, 10, 1, 0, 1), *self.gap_board), [])
        self.assertEqual(kinds(("rule", 0, 11, 1, 0, 1), *self.gap_board), [2])
        bar = ("bar", 1, 0, 0, 0, 5, 0, 7)
        self.assertEqual(kinds(("rule", 0, 1, 7, 0, 1), bar), [])
        self.assertEqual(kinds(("rule", 0, 1, 8, 0, 1), bar), [5])
        ringed = [("layers", 1), ("disc", 1, 0, 0, 0, 8), ("hole", 0, 0, 0, 5)]
        self.assertEqual(kinds(("rule", 0, 1, 1, 3, 1), *ringed), [])
        self.assertEqual(kinds(("rule", 0, 1, 1, 4, 1), *ringed), [7])
        edged = [("outline", SQUARE), ("disc", 1, 0, 50, 20, 5)]
        self.assertEqual(kinds(("rule", 0, 1, 1, 0, 15), *edged), [])
        self.assertEqual(kinds(("rule", 0, 1, 1, 0, 16), *edged), [6])

    def test_rules_take_hold_of_items_that_are_there(self):
        given = talk(*self.gap_board, ("check",), ("rule", 0, 11, 1, 0, 1), ("check",), ("rule", 0, 10, 1, 0, 1),
                     ("check",))
        self.assertEqual(given[2:], [[0], [0], [1, 2, 0, 1], [0], [0]])

    def test_within_bounds(self):
        for clazz in (0, 1, 14, 15):
            self.assertEqual(last(("rule", clazz, 1, 1, 0, 1)), [0])
            self.assertEqual(last(("rule", clazz, BIG, BIG, BIG, BIG)), [0])

    def test_refused_beyond_bounds(self):
        good = [0, 5, 5, 5, 5]
        beyond = [(-1, 16), (0, BIG + 1), (0, BIG + 1), (-1, BIG + 1), (0, BIG + 1)]
        for place, values in enumerate(beyond):
            for value in values + (INT_LOW, INT_HIGH):
                told = list(good)
                told[place] = value
                self.assertEqual(last(("rule", *told)), [-2], told)

    def test_nothing_changed_behind_a_refusal(self):
        board = [("disc", 1, 0, 50, 50, 3), ("disc", 1, 1, 57, 50, 3), ("bar", 2, 0, 30, 50, 40, 50, 1),
                 ("hole", 0, 50, 50, 3), ("outline", SQUARE)]
        plain = checked(*board)
        for told in ((0, 9, 9, 9, 0), (0, 0, 9, 9, 9), (0, 9, 0, 9, 9), (0, 9, 9, -1, 9), (-1, 9, 9, 9, 9)):
            self.assertEqual(checked(*board, ("rule", *told)), plain)
        self.assertNotEqual(checked(*board, ("rule", 0, 9, 9, 9, 9)), plain)

    def test_a_rule_is_of_its_class_alone(self):
        self.assertEqual(kinds(("rule", 3, 11, 1, 0, 1), *self.gap_board), [])
        self.assertEqual(kinds(("rule", 3, 11, 1, 0, 1), ("net", 1, 3), *self.gap_board), [2])
        self.assertEqual(kinds(("rule", 15, 11, 1, 0, 1), ("net", 0, 15), *self.gap_board), [2])
        self.assertEqual(kinds(("rule", 0, 11, 1, 0, 1), ("net", 0, 15), ("net", 1, 15), *self.gap_board), [])


class Nets(unittest.TestCase):
    def test_within_bounds(self):
        for owner in (0, 1, BIG - 1, BIG):
            for clazz in (0, 15):
                self.assertEqual(last(("net", owner, clazz)), [0])

    def test_refused_beyond_bounds(self):
        for owner, clazz in ((-1, 0), (BIG + 1, 0), (INT_LOW, 0), (INT_HIGH, 0), (0, -1), (0, 16), (0, INT_LOW),
                             (0, INT_HIGH), (-1, 16)):
            self.assertEqual(last(("net", owner, clazz)), [-2], (owner, clazz))

    def test_the_last_class_told_holds(self):
        board = [("rule", 1, 1, 9, 0, 1), ("bar", 1, 7, 0, 0, 9, 0, 4)]
        given = talk(*board, ("check",), ("net", 7, 1), ("check",), ("net", 7, 2), ("check",), ("net", 6, 1),
                     ("check",))
        self.assertEqual(given[2:], [[0], [0], [1, 5, 0, 0], [0], [0], [0], [0]])

    def test_nothing_changed_behind_a_refusal(self):
        board = [("rule", 1, 1, 9, 0, 1), ("net", 7, 1), ("bar", 1, 7, 0, 0, 9, 0, 4)]
        self.assertEqual(kinds(*board, ("net", 7, 16), ("net", 7, -1)), [5])

    def told(self, count):
        return [("net", owner, owner % 16) for owner in range(count)]

    def test_sixty_four_owners(self):
        self.assertEqual(talk(*self.told(64)), [[0]] * 64)
        self.assertEqual(last(*self.told(63), ("net", 999, 1)), [0])
        self.assertEqual(last(*self.told(64), ("net", 999, 1)), [-4])
        self.assertEqual(last(*self.told(64), ("net", 999, 0)), [-4])

    def test_an_owner_told_before_is_told_again(self):
        self.assertEqual(last(*self.told(64), ("net", 63, 0)), [0])
        self.assertEqual(last(*self.told(64), ("net", 0, 15)), [0])

    def test_class_zero_counts_too(self):
        zeros = [("net", owner, 0) for owner in range(64)]
        self.assertEqual(last(*zeros, ("net", 64, 0)), [-4])

    def test_owners_of_items_and_refused_ones_do_not_count(self):
        board = [("disc", 1, 500, 0, 0, 1), ("net", 600, 16), ("net", -1, 0)]
        self.assertEqual(last(*board, *self.told(64)), [0])
        self.assertEqual(last(*self.told(64), ("net", 999, 1), ("net", 5, 1)), [0])

    def test_bounds_before_the_count(self):
        self.assertEqual(last(*self.told(64), ("net", 999, 16)), [-2])
        self.assertEqual(last(*self.told(64), ("net", -1, 0)), [-2])

    def test_nothing_changed_behind_the_count(self):
        board = [("rule", 1, 1, 9, 0, 1), ("bar", 1, 999, 0, 0, 9, 0, 4)]
        self.assertEqual(kinds(*board, *self.told(64), ("net", 999, 1)), [])


class HoleGap(unittest.TestCase):
    holes = [("layers", 1), ("disc", 1, 0, 0, 0, 500), ("hole", 0, 0, 0, 2), ("hole", 0, 15, 0, 3)]

    def test_one_at_first(self):
        board = self.holes[:3]
        self.assertEqual(kinds(*board, ("hole", 0, 6, 0, 3)), [])
        self.assertEqual(kinds(*board, ("hole", 0, 5, 0, 3)), [4])

    def test_told(self):
        self.assertEqual(kinds(("hole_gap", 10), *self.holes), [])
        self.assertEqual(kinds(("hole_gap", 11), *self.holes), [4])
        self.assertEqual(talk(*self.holes, ("check",), ("hole_gap", 11), ("check",))[4:], [[0], [0], [1, 4, 1, 2]])

    def test_bounds(self):
        for g in (1, 2, BIG - 1, BIG):
            self.assertEqual(last(("hole_gap", g)), [0])
        for g in (0, -1, BIG + 1, INT_LOW, INT_HIGH):
            self.assertEqual(last(("hole_gap", g)), [-2])
            self.assertEqual(kinds(("hole_gap", 11), *self.holes, ("hole_gap", g)), [4])

    def test_class_gaps_do_not_matter_to_holes(self):
        self.assertEqual(kinds(("rule", 0, 500, 1, 0, 1), *self.holes), [])


class Outline(unittest.TestCase):
    far_disc = ("disc", 1, 0, 500, 500, 5)

    def test_none_at_first(self):
        self.assertEqual(kinds(self.far_disc), [])

    def test_told_and_taken_away(self):
        given = talk(self.far_disc, ("outline", SQUARE), ("check",), ("outline", []), ("check",))
        self.assertEqual(given[1:], [[0], [1, 6, 0, 0], [0], [0]])

    def test_the_last_one_holds(self):
        wide = [0, 0, 1000, 0, 1000, 1000, 0, 1000]
        self.assertEqual(kinds(self.far_disc, ("outline", SQUARE), ("outline", wide)), [])
        self.assertEqual(kinds(self.far_disc, ("outline", wide), ("outline", SQUARE)), [6])

    def test_either_way_round_and_from_any_corner(self):
        corners = [(0, 0), (100, 0), (100, 100), (50, 40), (0, 100)]
        for way in (corners, corners[::-1]):
            for k in range(5):
                row = [v for p in way[k:] + way[:k] for v in p]
                self.assertEqual(kinds(("outline", row), ("disc", 1, 0, 50, 35, 4)), [])
                self.assertEqual(kinds(("outline", row), ("disc", 1, 0, 50, 35, 5)), [6])

    def test_nothing_changed_behind_a_refusal(self):
        crossed = [0, 0, 1000, 1000, 1000, 0, 0, 1000]
        for row in (crossed, [0], [0, 0], [0, 0, 1, 1], [0, 0, 9, 0, 0, 9, 9]):
            self.assertEqual(talk(self.far_disc, ("outline", row), ("check",))[1:], [[-3], [0]])
            self.assertEqual(talk(self.far_disc, ("outline", SQUARE), ("outline", row), ("check",))[2:],
                             [[-3], [1, 6, 0, 0]])


if __name__ == "__main__":
    unittest.main()
