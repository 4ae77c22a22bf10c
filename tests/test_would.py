"""would bar and would hole: what a new one would break, with the number that it would have; nothing changes."""

import unittest

from tests.boards import ALL_KINDS, box, rule
from tests.talk import BIG, last, talk, triples


class WouldBar(unittest.TestCase):
    def test_as_if_put_on(self):
        places = [(0, 0, 9, 9, 2), (-45, 3, -45, 40, 4), (95, -5, 95, 5, 2), (500, 0, 0, 500, 9), (14, 0, 14, 1, 1),
                  (-99, -99, 99, 99, 3), (60, 60, 70, 60, 4)]
        for layer in (1, 2):
            for owner in range(4):
                for place in places:
                    told = (layer, owner, *place)
                    would = last(*ALL_KINDS, ("would_bar", *told))
                    self.assertEqual(would, last(*ALL_KINDS, ("bar", *told), ("check_one", 8)), told)

    def test_what_it_would_break(self):
        self.assertEqual(triples(last(*ALL_KINDS, ("would_bar", 1, 9, 4, -4, 4, 4, 3))),
                         [(1, 2, 8), (1, 7, 8), (3, 0, 8), (3, 1, 8), (5, 8, 8)])
        self.assertEqual(triples(last(*ALL_KINDS, ("would_bar", 1, 9, 90, 90, 97, 90, 4))), [(6, 8, 8)])
        self.assertEqual(triples(last(*ALL_KINDS, ("would_bar", 1, 9, 60, 60, 70, 60, 4))), [])

    def test_its_width(self):
        for radius, found in ((6, [(5, 0, 0)]), (7, []), (8, [])):
            self.assertEqual(triples(last(rule(width=7), ("would_bar", 1, 0, 0, 0, 5, 5, radius))), found)

    def test_where_a_gap_begins(self):
        board = [rule(gap=4), ("disc", 1, 0, 0, 0, 3)]
        for x, found in ((5, [(1, 0, 1)]), (6, [(2, 0, 1)]), (8, [(2, 0, 1)]), (9, []), (10, [])):
            for ends in ((x, -9, x, 9), (x, 9, x, -9), (x, 0, x + 9, 0), (x + 9, 0, x, 0)):
                self.assertEqual(triples(last(*board, ("would_bar", 1, 1, *ends, 2))), found, ends)

    def test_the_number_that_it_would_have(self):
        board = [("disc", 1, 0, 50 * k, 0, 5) for k in range(3)] + [("remove", 2), ("remove", 1)]
        self.assertEqual(last(*board, ("would_bar", 1, 1, 0, 0, 1, 0, 5)), [1, 1, 0, 3])

    def test_rings_of_holes_are_not_its_breaches(self):
        self.assertEqual(last(("hole", 0, 0, 0, 5), ("would_bar", 1, 0, 0, 0, 9, 0, 5)), [0])

    def test_nothing_changes(self):
        probe = [("items",), ("check",), ("news",), ("disc", 1, 1, 11, 0, 5), ("check",)]
        board = [("disc", 1, 0, 0, 0, 5), ("mark",)]
        given = talk(*board, ("would_bar", 1, 1, 0, 0, 9, 0, 5), *probe)
        self.assertEqual(given[2], [1, 1, 0, 1])
        self.assertEqual(given[3:], talk(*board, *probe)[2:])

    def test_as_great_as_allowed(self):
        board = [("disc", 1, 0, -BIG, -BIG, BIG)]
        self.assertEqual(last(*board, ("would_bar", 1, 1, BIG, -BIG, BIG, BIG, BIG)), [1, 1, 0, 1])
        self.assertEqual(last(*board, ("would_bar", 1, 1, BIG, -BIG, BIG, BIG, BIG - 1)), [0])


class WouldHole(unittest.TestCase):
    def test_as_if_put_on(self):
        places = [(0, 0, 5), (0, 0, 6), (8, 3, 2), (-50, 10, 2), (95, 0, 3), (96, 50, 2), (500, 0, 1), (60, 60, 9)]
        for owner in range(4):
            for place in places:
                would = last(*ALL_KINDS, ("would_hole", owner, *place))
                self.assertEqual(would, last(*ALL_KINDS, ("hole", owner, *place), ("check_one", 8)), place)

    def test_what_it_would_break(self):
        self.assertEqual(triples(last(*ALL_KINDS, ("would_hole", 2, 0, 0, 6))),
                         [(3, 5, 8), (3, 7, 8), (4, 0, 8), (4, 1, 8), (7, 8, 2)])
        self.assertEqual(triples(last(*ALL_KINDS, ("would_hole", 2, 0, 0, 7)))[-2:], [(7, 8, 1), (7, 8, 2)])
        self.assertEqual(triples(last(*ALL_KINDS, ("would_hole", 9, 96, 50, 3))), [(6, 8, 8), (7, 8, 1), (7, 8, 2)])

    def test_layers_without_a_ring(self):
        board = [("layers", 4), ("disc", 2, 0, 0, 0, 5), ("disc", 3, 1, 0, 0, 5), ("disc", 4, 0, 1, 0, 5)]
        self.assertEqual([t for t in triples(last(*board, ("would_hole", 0, 0, 0, 5))) if t[0] == 7],
                         [(7, 3, 1), (7, 3, 3), (7, 3, 4)])
        self.assertEqual([t for t in triples(last(*board, ("would_hole", 0, 0, 0, 4))) if t[0] == 7],
                         [(7, 3, 1), (7, 3, 3)])

    def test_the_hole_gap(self):
        board = [("hole_gap", 4), ("hole", 0, 0, 0, 3)]
        for owner in (0, 1):
            for x, found in ((8, [(4, 0, 1)]), (9, []), (10, [])):
                given = triples(last(*board, ("would_hole", owner, x, 0, 2)))
                self.assertEqual([t for t in given if t[0] < 7], found)

    def test_the_number_that_it_would_have(self):
        board = [("layers", 1), ("hole", 0, 50, 0, 5), ("hole", 0, 90, 0, 5), ("remove", 1), ("remove", 0)]
        self.assertEqual(last(*board, ("would_hole", 1, 0, 0, 5)), [1, 7, 2, 1])

    def test_it_gives_no_ring_and_gets_none_from_holes(self):
        self.assertEqual(last(("layers", 1), ("hole", 0, 0, 0, 9), ("would_hole", 0, 90, 0, 5)), [1, 7, 1, 1])
        self.assertEqual(last(("layers", 1), ("would_hole", 0, 90, 0, 5)), [1, 7, 0, 1])

    def test_nothing_changes(self):
        probe = [("items",), ("check",), ("news",), ("hole", 1, 11, 0, 5), ("check",)]
        board = [("hole", 0, 0, 0, 5), ("mark",)]
        given = talk(*board, ("would_hole", 1, 0, 0, 5), *probe)
        self.assertEqual(given[2], [3, 4, 0, 1, 7, 1, 1, 7, 1, 2])
        self.assertEqual(given[3:], talk(*board, *probe)[2:])


class Waived(unittest.TestCase):
    """All breaches are told, and no waiver stands in the way of an item that isn't there yet."""

    def test_waivers_do_not_matter(self):
        waivers = [("waive", 1, 0, 1), ("waive", 7, 2, 1)]
        board = [("disc", 1, 0, 0, 0, 5), ("disc", 1, 1, 0, 0, 5), ("hole", 2, 0, 0, 5)]
        for would in (("would_disc", 1, 3, 0, 0, 5), ("would_bar", 1, 3, 0, 0, 5, 0, 5), ("would_hole", 3, 0, 0, 5)):
            given = last(*board, *waivers, would)
            self.assertEqual(given, last(*board, would))
            self.assertGreaterEqual(given[0], 3)


if __name__ == "__main__":
    unittest.main()
