"""disc, bar, polygon, hole, remove, move, give, lift, items: what they change, and their refusals."""

import unittest

from tests.talk import BIG, INT_HIGH, INT_LOW, Same, kinds, last, listed, talk

BOX = [0, 0, 9, 0, 9, 9, 0, 9]
CROSSED = [0, 0, 9, 9, 9, 0, 0, 9]
NEW_ONES = {
    "disc": ("disc", 1, 0, 3, 4, 5),
    "bar": ("bar", 1, 0, 3, 4, 5, 6, 7),
    "polygon": ("polygon", 1, 0, BOX),
    "hole": ("hole", 0, 3, 4, 5),
    "would_disc": ("would_disc", 1, 0, 3, 4, 5),
    "would_bar": ("would_bar", 1, 0, 3, 4, 5, 6, 7),
    "would_hole": ("would_hole", 0, 3, 4, 5),
}
PLACES = {
    "disc": {"layer": [1], "owner": [2], "point": [3, 4], "radius": [5]},
    "bar": {"layer": [1], "owner": [2], "point": [3, 4, 5, 6], "radius": [7]},
    "polygon": {"layer": [1], "owner": [2], "point": [], "radius": []},
    "hole": {"layer": [], "owner": [1], "point": [2, 3], "radius": [4]},
    "would_disc": {"layer": [1], "owner": [2], "point": [3, 4], "radius": [5]},
    "would_bar": {"layer": [1], "owner": [2], "point": [3, 4, 5, 6], "radius": [7]},
    "would_hole": {"layer": [], "owner": [1], "point": [2, 3], "radius": [4]},
}
BEYOND = {
    "layer": [0, -1, 3, INT_LOW, INT_HIGH],
    "owner": [-1, BIG + 1, INT_LOW, INT_HIGH],
    "point": [-BIG - 1, BIG + 1, INT_LOW, INT_HIGH],
    "radius": [0, -1, BIG + 1, INT_LOW, INT_HIGH],
}
WITHIN = {"layer": [1, 2], "owner": [0, 1, BIG - 1, BIG], "point": [-BIG, 0, BIG], "radius": [1, 2, BIG - 1, BIG]}
NUMBERS = {"layer": -2, "owner": -2, "point": -3, "radius": -3}


def changed(call, place, value):
    return call[:place] + (value,) + call[place + 1:]


def discs(count):
    return [("disc", 1, 0, k, 0, 1) for k in range(count)]


class Bounds(Same):
    def test_within(self):
        for name, call in NEW_ONES.items():
            for what, places in PLACES[name].items():
                for place in places:
                    for value in WITHIN[what]:
                        told = changed(call, place, value)
                        if name in ("bar", "would_bar") and told[3:5] == told[5:7]:
                            continue
                        first = last(told)
                        self.assertGreaterEqual(first[0], 0, told)

    def test_beyond(self):
        board = [("disc", 1, 5, 3, 4, 5), ("hole", 6, 7, 7, 2)]
        for name, call in NEW_ONES.items():
            for what, places in PLACES[name].items():
                for place in places:
                    for value in BEYOND[what]:
                        self.assertRefused(board, changed(call, place, value), NUMBERS[what])

    def test_layers_told(self):
        for name in ("disc", "bar", "polygon", "would_disc", "would_bar"):
            call = NEW_ONES[name]
            self.assertGreaterEqual(last(("layers", 8), changed(call, 1, 8))[0], 0)
            self.assertEqual(last(("layers", 8), changed(call, 1, 9)), [-2])
            self.assertEqual(last(("layers", 1), changed(call, 1, 2)), [-2])

    def test_a_bar_with_equal_ends(self):
        for name in ("bar", "would_bar"):
            self.assertRefused([], (name, 1, 0, 3, 4, 3, 4, 5), -3)
            self.assertEqual(last((name, 1, 0, 3, 4, 3, 5, 5)), [0])
            self.assertEqual(last((name, 1, 0, 3, 4, 4, 4, 5)), [0])

    def test_no_polygon(self):
        for row in ([], [0, 0], CROSSED, BOX + [0], [0, 0, BIG + 1, 0, 0, 9]):
            self.assertRefused(discs(2), ("polygon", 1, 0, row), -3)


class OrderOfRefusals(Same):
    wrong_shapes = [("disc", 1, 0, 3, 4, 0), ("bar", 1, 0, 3, 4, 3, 4, 5), ("polygon", 1, 0, CROSSED),
                    ("polygon", 1, 0, []), ("hole", 0, 3, 4, 0), ("would_disc", 1, 0, 3, BIG + 1, 4),
                    ("would_bar", 1, 0, 3, 4, 3, 4, 5), ("would_bar", 1, 0, 3, 4, 5, 6, BIG + 1),
                    ("would_hole", 0, 3, 4, 0), ("would_hole", 0, -BIG - 1, 4, 5)]

    def test_layer_or_owner_before_shape(self):
        for call in self.wrong_shapes:
            self.assertEqual(last(call), [-3])
            for what in ("layer", "owner"):
                for place in PLACES[call[0]][what]:
                    self.assertRefused([], changed(call, place, -1), -2)

    def test_shape_before_the_count_of_items(self):
        for call in self.wrong_shapes:
            self.assertEqual(last(*discs(128), call), [-3])

    def test_layer_or_owner_before_the_count_of_items(self):
        for name, call in NEW_ONES.items():
            for what in ("layer", "owner"):
                for place in PLACES[name][what]:
                    self.assertEqual(last(*discs(128), changed(call, place, -1)), [-2])

    def test_no_item_before_all_else(self):
        board = [("hole", 0, 0, 0, 1)]
        self.assertRefused(board, ("move", 1, INT_HIGH, INT_HIGH), -1)
        self.assertRefused(board, ("give", 1, -1), -1)
        self.assertRefused(board, ("lift", 1, 99), -1)
        self.assertRefused(board, ("lift", 0, 99), -1)


class Numbers(unittest.TestCase):
    def test_in_the_order_put_on(self):
        calls = [NEW_ONES[name] for name in ("disc", "bar", "polygon", "hole", "hole", "disc")]
        self.assertEqual(talk(*calls), [[0], [1], [2], [3], [4], [5]])

    def test_none_is_given_again(self):
        given = talk(*discs(3), ("remove", 2), ("disc", 1, 0, 0, 0, 1), ("remove", 3), ("remove", 0), ("remove", 1),
                     ("items",), ("hole", 0, 0, 0, 1), ("items",))
        self.assertEqual(given[4], [3])
        self.assertEqual(given[8:], [[0], [4], [1, 4, 0, 0, 1, 1, 0, 0]])

    def test_refused_ones_get_none(self):
        self.assertEqual(talk(("disc", 3, 0, 0, 0, 1), ("disc", 1, 0, 0, 0, 0), ("bar", 1, 0, 1, 1, 1, 1, 1),
                              ("polygon", 1, 0, []), ("hole", -1, 0, 0, 1), ("disc", 1, 0, 0, 0, 1))[-1], [0])

    def test_would_be_ones_get_none(self):
        self.assertEqual(last(("would_disc", 1, 0, 0, 0, 1), ("would_bar", 1, 0, 0, 0, 1, 0, 1),
                              ("would_hole", 0, 0, 0, 1), ("disc", 1, 0, 0, 0, 1)), [0])


class HundredAndTwentyEight(unittest.TestCase):
    def test_full(self):
        given = talk(*discs(128))
        self.assertEqual(given, [[k] for k in range(128)])
        for name, call in NEW_ONES.items():
            self.assertGreaterEqual(last(*discs(127), call)[0], 0, name)
            self.assertEqual(last(*discs(128), call), [-4], name)

    def test_holes_count_too(self):
        holes = [("hole", 0, 9 * k, 0, 1) for k in range(64)]
        self.assertEqual(last(*discs(64), *holes, ("hole", 0, 0, 0, 1)), [-4])
        self.assertEqual(last(*discs(63), *holes, ("hole", 0, 0, 0, 1)), [127])

    def test_room_again_when_one_is_removed(self):
        given = talk(*discs(128), ("disc", 1, 0, 0, 0, 1), ("remove", 5), ("disc", 1, 0, 0, 0, 1),
                     ("disc", 1, 0, 0, 0, 1), ("items",))
        self.assertEqual(given[128:132], [[-4], [0], [128], [-4]])
        self.assertEqual(given[132][0], 128)

    def test_more_than_128_in_all(self):
        calls = []
        for k in range(150):
            calls += [("disc", 1, 0, k, 0, 1), ("remove", k)]
        self.assertEqual(talk(*calls), [answer for k in range(150) for answer in ([k], [0])])


class Remove(Same):
    def test_taken_away(self):
        board = [("disc", 1, 0, 0, 0, 5), ("disc", 1, 1, 3, 0, 5), ("disc", 1, 2, 5, 0, 5)]
        given = talk(*board, ("check",), ("remove", 1), ("check",), ("items",))
        self.assertEqual(given[3:], [[3, 1, 0, 1, 1, 0, 2, 1, 1, 2], [0], [1, 1, 0, 2],
                                     [2, 0, 0, 1, 5, 1, 0, 0, 2, 2, 1, 5, 1, 5, 0]])

    def test_no_such_item(self):
        for number in (-1, 2, INT_LOW, INT_HIGH):
            self.assertRefused(discs(2), ("remove", number), -1)
        self.assertRefused(discs(2) + [("remove", 1)], ("remove", 1), -1)
        self.assertEqual(last(("remove", 0)), [-1])


class Move(Same):
    def test_all_points(self):
        board = [("disc", 1, 0, 1, 2, 5), ("bar", 1, 0, 1, 2, 3, 4, 5), ("polygon", 1, 0, BOX), ("hole", 0, 1, 2, 5)]
        moved = listed(*board, *[("move", k, 10, -20) for k in range(4)])
        self.assertEqual(moved, [
            (0, 0, 1, 5, [(11, -18)]),
            (1, 0, 1, 5, [(11, -18), (13, -16)]),
            (2, 0, 1, 0, [(10, -20), (19, -20), (19, -11), (10, -11)]),
            (3, 0, 0, 5, [(11, -18)]),
        ])

    def test_breaches_move_along(self):
        board = [("disc", 1, 0, 0, 0, 5), ("polygon", 1, 1, [20, 0, 30, 0, 30, 9])]
        given = talk(*board, ("check",), ("move", 0, 14, 0), ("check",), ("move", 0, 1, 0), ("check",),
                     ("move", 1, 1, 0), ("check",), ("move", 1, 0, 1), ("check",))
        self.assertEqual(given[2::2], [[0], [0], [1, 1, 0, 1], [0], [0]])
        self.assertEqual(kinds(*board, ("move", 0, 15, 0), ("move", 1, 0, 1)), [2])

    def test_in_range(self):
        board = [("bar", 1, 0, -BIG + 5, 0, BIG - 7, 3, 2), ("hole", 0, 0, BIG - 1, 1)]
        for call in (("move", 0, 7, 0), ("move", 0, -5, 0), ("move", 0, 0, BIG - 3), ("move", 0, 0, -BIG),
                     ("move", 1, 0, 1), ("move", 1, 0, -BIG), ("move", 1, -BIG, 0)):
            self.assertEqual(last(*board, call), [0], call)
        for call in (("move", 0, 8, 0), ("move", 0, -6, 0), ("move", 0, 0, BIG - 2), ("move", 0, 0, -BIG - 1),
                     ("move", 1, 0, 2), ("move", 1, BIG + 1, 0), ("move", 0, INT_LOW, 0), ("move", 0, 0, INT_HIGH)):
            self.assertRefused(board, call, -2)

    def test_a_polygon_in_range(self):
        board = [("polygon", 1, 0, [0, 0, 10, 0, 10, 10])]
        self.assertEqual(last(*board, ("move", 0, BIG - 10, BIG - 10)), [0])
        self.assertRefused(board, ("move", 0, BIG - 9, 0), -2)
        self.assertRefused(board, ("move", 0, 0, BIG - 9), -2)

    def test_no_such_item(self):
        for number in (-1, 2, INT_LOW, INT_HIGH):
            self.assertRefused(discs(2), ("move", number, 1, 1), -1)
        self.assertEqual(last(*discs(2), ("remove", 0), ("move", 0, 1, 1)), [-1])

    def test_by_nothing(self):
        self.assertEqual(talk(*discs(1), ("move", 0, 0, 0), ("items",))[1:], [[0], [1, 0, 0, 1, 1, 1, 0, 0]])


class Give(Same):
    def test_owner_and_its_rules(self):
        board = [("disc", 1, 0, 0, 0, 5), ("disc", 1, 1, 3, 0, 5), ("rule", 1, 1, 9, 0, 1), ("net", 7, 1),
                 ("bar", 2, 0, 0, 0, 9, 0, 5)]
        given = talk(*board, ("check",), ("give", 1, 0), ("check",), ("give", 2, 7), ("check",), ("give", 1, BIG),
                     ("check",))
        self.assertEqual(given[5:], [[1, 1, 0, 1], [0], [0], [0], [1, 5, 2, 2], [0], [2, 1, 0, 1, 5, 2, 2]])

    def test_holes_too(self):
        board = [("layers", 1), ("disc", 1, 4, 0, 0, 5), ("hole", 0, 0, 0, 5)]
        self.assertEqual(kinds(*board), [3, 7])
        self.assertEqual(kinds(*board, ("give", 1, 4)), [])
        self.assertEqual(listed(*board, ("give", 1, 4))[1], (1, 4, 0, 5, [(0, 0)]))

    def test_refused(self):
        for owner in BEYOND["owner"]:
            self.assertRefused(discs(2), ("give", 1, owner), -2)
        for owner in WITHIN["owner"]:
            self.assertEqual(last(*discs(2), ("give", 1, owner)), [0])
        for number in (-1, 2, INT_LOW, INT_HIGH):
            self.assertRefused(discs(2), ("give", number, 0), -1)


class Lift(Same):
    def test_layer(self):
        board = [("disc", 1, 0, 0, 0, 5), ("disc", 1, 1, 3, 0, 5)]
        given = talk(*board, ("check",), ("lift", 1, 2), ("check",), ("items",), ("lift", 0, 2), ("check",))
        self.assertEqual(given[2:], [[1, 1, 0, 1], [0], [0], [2, 0, 0, 1, 5, 1, 0, 0, 1, 1, 2, 5, 1, 3, 0], [0],
                                     [1, 1, 0, 1]])

    def test_refused(self):
        for layer in BEYOND["layer"]:
            self.assertRefused(discs(2), ("lift", 1, layer), -2)
        for number in (-1, 2, INT_LOW, INT_HIGH):
            self.assertRefused(discs(2), ("lift", number, 1), -1)
        self.assertEqual(last(*discs(2), ("lift", 1, 1)), [0])
        self.assertEqual(last(("layers", 8), *discs(2), ("lift", 1, 8)), [0])
        self.assertEqual(last(("layers", 7), *discs(2), ("lift", 1, 8)), [-2])

    def test_not_a_hole(self):
        for layer in (0, 1, 2):
            self.assertRefused([("hole", 0, 0, 0, 1)], ("lift", 0, layer), -1)


class Items(unittest.TestCase):
    def test_none(self):
        self.assertEqual(last(("items",)), [0])

    def test_all_kinds(self):
        given = last(("disc", 2, 7, 1, -2, 5), ("bar", 1, 8, 9, 9, -3, 4, 6), ("polygon", 2, 9, [0, 9, 9, 9, 0, 0]),
                     ("hole", 10, -4, -5, BIG), ("items",))
        self.assertEqual(given, [4, 0, 7, 2, 5, 1, 1, -2, 1, 8, 1, 6, 2, -3, 4, 9, 9, 2, 9, 2, 0, 3, 0, 0, 9, 9, 0, 9,
                                 3, 10, 0, BIG, 1, -4, -5])

    def test_by_rising_numbers_after_changes(self):
        board = discs(6) + [("remove", 0), ("move", 1, 5, 5), ("give", 2, 9), ("lift", 3, 2), ("disc", 1, 0, 0, 0, 1),
                            ("remove", 4), ("move", 5, 1, 1)]
        self.assertEqual([item[0] for item in listed(*board)], [1, 2, 3, 5, 6])

    def test_many_corners(self):
        row = [0, 0, 300, 0] + [v for k in range(29, -1, -1) for v in (k * 10, 50 + k % 2)]
        self.assertEqual(last(("polygon", 1, 0, row), ("items",))[:6], [1, 0, 0, 1, 0, 32])


if __name__ == "__main__":
    unittest.main()
