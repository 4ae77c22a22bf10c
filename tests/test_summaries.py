"""report, by classes, mark, news, gone."""

import unittest

from tests.boards import ALL_FOUND, ALL_KINDS, box, rule
from tests.talk import Same, last, talk, triples

TWO_CLASSES = [("net", 1, 1), ("net", 2, 2), ("net", 3, 2)]


def disc(x, owner, r=5, layer=1):
    return ("disc", layer, owner, x, 0, r)


def waive(breaches):
    return [("waive", *breach) for breach in breaches]


class Report(unittest.TestCase):
    def test_nothing(self):
        self.assertEqual(last(("report",)), [0, 0, 0, 0, 0, 0, 0])

    def test_each_kind(self):
        self.assertEqual(last(*ALL_KINDS, ("report",)), [1, 1, 5, 1, 1, 1, 3])

    def test_waived_ones_are_not_counted(self):
        for breach in ALL_FOUND:
            wanted = [1, 1, 5, 1, 1, 1, 3]
            wanted[breach[0] - 1] -= 1
            self.assertEqual(last(*ALL_KINDS, ("waive", *breach), ("report",)), wanted)
            self.assertEqual(last(*ALL_KINDS, ("waive", *breach), ("unwaive", *breach), ("report",)),
                             [1, 1, 5, 1, 1, 1, 3])
        self.assertEqual(last(*ALL_KINDS, *waive(ALL_FOUND), ("report",)), [0] * 7)

    def test_waivers_of_what_is_not_there_are_not_taken_off(self):
        board = [disc(0, 0), disc(3, 1), disc(6, 2), *waive([(1, 0, 1), (1, 1, 2)])]
        self.assertEqual(last(*board, ("report",)), [1, 0, 0, 0, 0, 0, 0])
        self.assertEqual(last(*board, ("remove", 1), ("report",)), [1, 0, 0, 0, 0, 0, 0])

    def test_as_many_as_there_can_be(self):
        holes = [("layers", 8), ("outline", box(50, 50, 60, 60))] + [("hole", k, 0, 0, 5) for k in range(128)]
        self.assertEqual(last(*holes, ("report",)), [0, 0, 0, 128 * 127 // 2, 0, 128, 128 * 8])
        bars = [rule(width=9)] + [("bar", 1, k, 0, 0, 9, 0, 5) for k in range(128)]
        self.assertEqual(last(*bars, ("report",)), [128 * 127 // 2, 0, 0, 0, 128, 0, 0])


class ByClasses(unittest.TestCase):
    def table(self, *calls):
        return triples(last(*calls, ("by_classes",)))

    def test_nothing(self):
        self.assertEqual(last(("by_classes",)), [0])
        self.assertEqual(self.table(disc(0, 0), disc(50, 1)), [])

    def test_within_one_class(self):
        self.assertEqual(self.table(disc(0, 0), disc(3, 9)), [(0, 0, 1)])
        self.assertEqual(self.table(*TWO_CLASSES, disc(0, 2), disc(3, 3)), [(2, 2, 1)])
        greatest = [("net", 2, 15), ("net", 3, 15)]
        self.assertEqual(self.table(*greatest, disc(0, 2), disc(3, 3)), [(15, 15, 1)])

    def test_owners_that_were_never_told(self):
        self.assertEqual(self.table(disc(0, 1000000000), disc(3, 999)), [(0, 0, 1)])
        self.assertEqual(self.table(*TWO_CLASSES, disc(0, 1), disc(3, 999)), [(0, 1, 1)])

    def test_across_two_classes_whichever_item_is_first(self):
        self.assertEqual(self.table(*TWO_CLASSES, disc(0, 1), disc(3, 2)), [(1, 2, 1)])
        self.assertEqual(self.table(*TWO_CLASSES, disc(0, 2), disc(3, 1)), [(1, 2, 1)])
        self.assertEqual(self.table(*TWO_CLASSES, disc(0, 2), disc(3, 1), disc(50, 1), disc(53, 3)), [(1, 2, 2)])

    def test_by_rising_c_then_d(self):
        nets = [("net", k, (5 * k) % 16) for k in range(16)]
        heap = [disc(0, k) for k in range(16)]
        self.assertEqual(self.table(*nets, *heap), [(c, d, 1) for c in range(16) for d in range(c + 1, 16)])
        both = heap + [disc(0, 100 + k) for k in range(3)]
        found = self.table(*nets, *both)
        self.assertEqual(found[0], (0, 0, 1 + 2 + 3))
        self.assertEqual(found[1:16], [(0, d, 4) for d in range(1, 16)])
        self.assertEqual(found, sorted(found))

    def test_kinds_one_to_three(self):
        self.assertEqual(self.table(rule(gap=3), disc(0, 0), disc(12, 1)), [(0, 0, 1)])
        self.assertEqual(self.table(disc(0, 0), ("hole", 1, 0, 0, 2)), [(0, 0, 1)])
        self.assertEqual(self.table(*TWO_CLASSES, ("hole", 2, 0, 0, 2), disc(0, 1)), [(1, 2, 1)])
        self.assertEqual(self.table(*ALL_KINDS), [(0, 0, 7)])

    def test_other_kinds_do_not_count(self):
        board = [rule(width=9), ("outline", box(50, 50, 60, 60)), ("hole", 0, 0, 0, 2), ("hole", 1, 0, 0, 2),
                 ("bar", 1, 0, 500, 0, 600, 0, 3)]
        self.assertEqual(last(*board, ("report",)), [0, 0, 0, 1, 1, 3, 4])
        self.assertEqual(self.table(*board), [])

    def test_waived_ones_do_not_count(self):
        board = [*TWO_CLASSES, disc(0, 0), disc(3, 1), disc(4, 2)]
        self.assertEqual(self.table(*board), [(0, 1, 1), (0, 2, 1), (1, 2, 1)])
        self.assertEqual(self.table(*board, ("waive", 1, 0, 2)), [(0, 1, 1), (1, 2, 1)])
        self.assertEqual(self.table(*board, ("waive", 1, 0, 2), ("unwaive", 1, 0, 2)),
                         [(0, 1, 1), (0, 2, 1), (1, 2, 1)])

    def test_classes_as_they_are_now(self):
        board = [*TWO_CLASSES, disc(0, 0), disc(3, 1)]
        self.assertEqual(self.table(*board, ("net", 0, 4)), [(1, 4, 1)])
        self.assertEqual(self.table(*board, ("net", 0, 4), ("net", 1, 4)), [(4, 4, 1)])
        self.assertEqual(self.table(*board, ("give", 0, 3)), [(1, 2, 1)])
        self.assertEqual(self.table(*board, ("net", 1, 16)), [(0, 1, 1)])


class Marks(Same):
    """A board that is changed between a mark and what is asked behind it."""

    board = [disc(0, 0), disc(3, 1), disc(50, 2), ("bar", 1, 3, 90, 0, 99, 0, 2)]

    def asked(self, *calls):
        given = talk(*self.board, *calls, ("news",), ("gone",))
        return triples(given[-2]), triples(given[-1])

    def test_before_the_first_mark(self):
        self.assertEqual(talk(("news",), ("gone",)), [[0], [0]])
        self.assertEqual(self.asked(), ([(1, 0, 1)], []))
        self.assertEqual(self.asked(("remove", 0)), ([], []))
        given = talk(*ALL_KINDS, ("news",), ("gone",), ("check",))
        self.assertEqual(given[-3], given[-1])
        self.assertEqual(given[-2], [0])

    def test_how_many_are_kept(self):
        self.assertEqual(last(("mark",)), [0])
        self.assertEqual(last(*self.board, ("mark",)), [1])
        self.assertEqual(last(*ALL_KINDS, ("mark",)), [13])
        self.assertEqual(last(*ALL_KINDS, *waive(ALL_FOUND[2:5]), ("mark",)), [10])
        self.assertEqual(last(*ALL_KINDS, ("mark",), ("mark",)), [13])

    def test_nothing_between(self):
        self.assertEqual(self.asked(("mark",)), ([], []))
        self.assertEqual(talk(*ALL_KINDS, ("mark",), ("news",), ("gone",))[-2:], [[0], [0]])

    def test_items_changed(self):
        self.assertEqual(self.asked(("mark",), ("move", 2, -45, 0)), ([(1, 0, 2), (1, 1, 2)], []))
        self.assertEqual(self.asked(("mark",), ("move", 1, 45, 0)), ([(1, 1, 2)], [(1, 0, 1)]))
        self.assertEqual(self.asked(("mark",), ("remove", 0)), ([], [(1, 0, 1)]))
        self.assertEqual(self.asked(("mark",), ("give", 0, 1)), ([], [(1, 0, 1)]))
        self.assertEqual(self.asked(("mark",), ("lift", 0, 2)), ([], [(1, 0, 1)]))
        self.assertEqual(self.asked(("mark",), ("hole", 9, 500, 0, 3)), ([(7, 4, 1), (7, 4, 2)], []))
        self.assertEqual(self.asked(("mark",), ("remove", 1), disc(3, 1)), ([(1, 0, 4)], [(1, 0, 1)]))

    def test_there_and_back(self):
        self.assertEqual(self.asked(("mark",), ("move", 1, 45, 0), ("move", 1, -45, 0)), ([], []))

    def test_rules_changed(self):
        self.assertEqual(self.asked(("mark",), rule(width=3)), ([(5, 3, 3)], []))
        self.assertEqual(self.asked(rule(width=3), ("mark",), rule()), ([], [(5, 3, 3)]))
        self.assertEqual(self.asked(("mark",), ("outline", box(-20, -20, 94, 20))), ([(6, 3, 3)], []))
        self.assertEqual(self.asked(("hole", 9, 500, 0, 3), ("mark",), ("layers", 3)), ([(7, 4, 3)], []))
        self.assertEqual(self.asked(("hole", 9, 500, 0, 3), ("mark",), ("layers", 1)), ([], [(7, 4, 2)]))
        self.assertEqual(self.asked(("move", 1, 8, 0), ("mark",), ("rule", 2, 9, 1, 0, 1), ("net", 1, 2)),
                         ([(2, 0, 1)], []))

    def test_one_kind_in_the_place_of_another(self):
        self.assertEqual(self.asked(rule(gap=5), ("mark",), ("move", 1, 9, 0)), ([(2, 0, 1)], [(1, 0, 1)]))

    def test_waived_behind_the_mark(self):
        self.assertEqual(self.asked(("mark",), ("waive", 1, 0, 1)), ([], [(1, 0, 1)]))
        self.assertEqual(self.asked(("mark",), ("waive", 1, 0, 1), ("unwaive", 1, 0, 1)), ([], []))
        self.assertEqual(self.asked(("mark",), ("waive", 1, 0, 1), ("remove", 0)), ([], [(1, 0, 1)]))

    def test_waived_before_the_mark(self):
        self.assertEqual(self.asked(("waive", 1, 0, 1), ("mark",)), ([], []))
        self.assertEqual(self.asked(("waive", 1, 0, 1), ("mark",), ("unwaive", 1, 0, 1)), ([(1, 0, 1)], []))
        self.assertEqual(self.asked(("waive", 1, 0, 1), ("mark",), ("remove", 1)), ([], []))
        self.assertEqual(self.asked(("waive", 1, 0, 1)), ([], []))

    def test_a_second_mark(self):
        changes = [("mark",), ("move", 2, -45, 0), ("remove", 0), ("mark",)]
        self.assertEqual(self.asked(*changes[:-1]), ([(1, 1, 2)], [(1, 0, 1)]))
        self.assertEqual(self.asked(*changes), ([], []))
        self.assertEqual(self.asked(*changes, ("move", 1, 99, 9)), ([], [(1, 1, 2)]))
        self.assertEqual(talk(*self.board, *changes)[4:], [[1], [0], [0], [1]])

    def test_a_mark_of_nothing(self):
        self.assertEqual(self.asked(("move", 1, 9, 0), ("mark",), ("move", 1, -9, 0)), ([(1, 0, 1)], []))
        self.assertEqual(self.asked(("mark",), ("remove", 0), ("mark",)), ([], []))

    def test_asking_changes_nothing(self):
        probe = [("news",), ("gone",), ("check",), ("report",), ("by_classes",), ("waivers",), ("items",)]
        given = talk(*ALL_KINDS, *waive(ALL_FOUND[:3]), ("mark",), ("move", 0, 60, 0), *probe, *probe)
        self.assertEqual(given[-14:-7], given[-7:])
        self.assertGreater(given[-7][0], 0)
        self.assertGreater(given[-6][0], 0)

    def test_in_the_order_of_breaches(self):
        given = talk(*ALL_KINDS, ("news",), ("mark",), *[("remove", k) for k in (5, 0, 7, 3, 1, 2, 4, 6)], ("gone",))
        self.assertEqual(triples(given[len(ALL_KINDS)]), ALL_FOUND)
        self.assertEqual(triples(given[-1]), ALL_FOUND)

    def test_as_many_as_there_can_be(self):
        holes = [("layers", 8), ("outline", box(50, 50, 60, 60))] + [("hole", k, 0, 0, 5) for k in range(128)]
        count = 128 * 127 // 2 + 128 + 128 * 8
        given = talk(*holes, ("news",), ("mark",), ("shift_all", 55, 55), ("outline", []), ("gone",),
                     *[("remove", k) for k in range(128)], ("gone",))
        self.assertEqual((given[130][0], len(given[130])), (count, 1 + 3 * count))
        self.assertEqual(given[131], [count])
        self.assertEqual(triples(given[134]), [(6, k, k) for k in range(128)])
        self.assertEqual(given[-1], given[130])


if __name__ == "__main__":
    unittest.main()
