"""waive, unwaive, waivers; waived breaches in check, check one."""

import unittest

from tests.boards import ALL_FOUND, ALL_KINDS, rule
from tests.talk import INT_HIGH, INT_LOW, Same, checked, last, talk, triples

# Twelve discs on one spot: 66 breaches.
HEAP = [("disc", 1, k, 0, 0, 5) for k in range(12)]
HEAP_FOUND = [(1, a, b) for a in range(12) for b in range(a + 1, 12)]
PAIR = [("disc", 1, 0, 0, 0, 5), ("disc", 1, 1, 8, 0, 5)]


def waive(breaches):
    return [("waive", *breach) for breach in breaches]


def waived(*calls):
    return triples(last(*calls, ("waivers",)))


class Waive(Same):
    def test_each_kind(self):
        for breach in ALL_FOUND:
            given = talk(*ALL_KINDS, ("waive", *breach), ("check",), ("waivers",))
            self.assertEqual(given[-3], [0])
            self.assertEqual(triples(given[-2]), [t for t in ALL_FOUND if t != breach])
            self.assertEqual(triples(given[-1]), [breach])

    def test_in_check_one(self):
        for breach in ALL_FOUND:
            for number in range(8):
                found = triples(last(*ALL_KINDS, ("waive", *breach), ("check_one", number)))
                wanted = [t for t in ALL_FOUND if t[1] == number or (t[2] == number and t[0] <= 4)]
                self.assertEqual(found, [t for t in wanted if t != breach])

    def test_all(self):
        given = talk(*ALL_KINDS, *waive(ALL_FOUND), ("check",), ("waivers",))
        self.assertEqual(given[-2], [0])
        self.assertEqual(triples(given[-1]), ALL_FOUND)

    def test_it_may_be_already(self):
        given = talk(*PAIR, ("waive", 1, 0, 1), ("waive", 1, 0, 1), ("waivers",), ("unwaive", 1, 0, 1), ("check",))
        self.assertEqual(given[2:], [[0], [0], [1, 1, 0, 1], [0], [1, 1, 0, 1]])

    def test_no_such_breach(self):
        wrong = [(2, 0, 1), (3, 0, 1), (4, 0, 1), (5, 0, 0), (6, 0, 0), (7, 0, 1), (1, 1, 0), (1, 0, 0), (1, 1, 1),
                 (1, 0, 2), (1, 2, 3), (0, 0, 1), (8, 0, 1), (-1, 0, 1), (1, -1, 1), (1, 0, -1), (1, -1, -1),
                 (INT_LOW, 0, 1), (INT_HIGH, 0, 1), (1, INT_LOW, 1), (1, 0, INT_HIGH)]
        for breach in wrong:
            self.assertRefused(PAIR, ("waive", *breach), -6)
        self.assertEqual(last(("waive", 1, 0, 1)), [-6])

    def test_no_such_breach_of_one_item(self):
        board = [rule(width=9), ("bar", 1, 0, 0, 0, 9, 0, 5), ("bar", 1, 0, 0, 0, 9, 0, 5), ("hole", 0, 0, 0, 5),
                 ("disc", 2, 0, 0, 0, 5)]
        self.assertEqual(checked(*board), [(5, 0, 0), (5, 1, 1)])
        for breach in ((5, 0, 1), (5, 1, 0), (6, 0, 0), (7, 2, 1), (7, 2, 2), (7, 2, 0), (7, 2, 3)):
            self.assertRefused(board, ("waive", *breach), -6)
        for breach in ((7, 2, 0), (7, 2, 1), (7, 2, 3), (7, 2, -1), (7, 0, 2)):
            self.assertRefused(board + [("remove", 3)], ("waive", *breach), -6)
        self.assertEqual(last(*board, ("remove", 3), ("waive", 7, 2, 2)), [0])

    def test_a_breach_that_is_not_there_now(self):
        for change in (("move", 1, 9, 0), ("remove", 1), ("remove", 0), ("give", 1, 0), ("lift", 0, 2)):
            self.assertRefused(PAIR + [change], ("waive", 1, 0, 1), -6)
            # Not even if it's waived already: then it stays so.
            self.assertRefused(PAIR + [("waive", 1, 0, 1), change], ("waive", 1, 0, 1), -6)
            self.assertEqual(waived(*PAIR, ("waive", 1, 0, 1), change, ("waive", 1, 0, 1)), [(1, 0, 1)])

    def test_one_kind_is_not_another(self):
        board = [rule(gap=5), *PAIR, ("waive", 1, 0, 1), ("move", 1, 4, 0)]
        self.assertEqual(checked(*board), [(2, 0, 1)])
        self.assertEqual(talk(*board, ("waive", 2, 0, 1), ("check",), ("waivers",))[-3:],
                         [[0], [0], [2, 1, 0, 1, 2, 0, 1]])


class SixtyFour(Same):
    most = HEAP + waive(HEAP_FOUND[:64])

    def test_sixty_four_and_one_more(self):
        self.assertEqual(talk(*self.most)[12:], [[0]] * 64)
        self.assertEqual(last(*self.most, ("waive", 1, 9, 11), ("waivers",))[0], 64)
        self.assertRefused(self.most, ("waive", *HEAP_FOUND[64]), -4)
        self.assertRefused(self.most, ("waive", *HEAP_FOUND[65]), -4)
        self.assertEqual(last(*self.most[:-1], ("waive", *HEAP_FOUND[65])), [0])

    def test_one_that_is_waived_already(self):
        for breach in (HEAP_FOUND[0], HEAP_FOUND[30], HEAP_FOUND[63]):
            given = talk(*self.most, ("waive", *breach), ("waivers",))
            self.assertEqual(given[-2], [0])
            self.assertEqual(triples(given[-1]), HEAP_FOUND[:64])

    def test_no_such_breach_comes_first(self):
        self.assertRefused(self.most, ("waive", 2, 0, 1), -6)
        self.assertRefused(self.most, ("waive", 1, 1, 0), -6)
        self.assertRefused(self.most + [("remove", 0)], ("waive", 1, 0, 1), -6)

    def test_waivers_of_items_that_are_gone_count_too(self):
        self.assertRefused(self.most + [("remove", 0), ("remove", 1)], ("waive", *HEAP_FOUND[64]), -4)
        self.assertRefused(self.most + [("move", 0, 99, 0)], ("waive", *HEAP_FOUND[64]), -4)

    def test_room_again_when_one_is_unwaived(self):
        given = talk(*self.most, ("unwaive", 1, 0, 5), ("waive", *HEAP_FOUND[65]), ("waive", 1, 0, 5), ("check",))
        self.assertEqual(given[-4:], [[0], [0], [-4], [2, 1, 0, 5, *HEAP_FOUND[64]]])
        self.assertEqual(last(*self.most, ("remove", 0), ("unwaive", 1, 0, 5), ("waive", *HEAP_FOUND[65])), [0])


class Unwaive(Same):
    def test_shown_again(self):
        given = talk(*ALL_KINDS, *waive(ALL_FOUND), ("unwaive", *ALL_FOUND[4]), ("check",), ("waivers",))
        self.assertEqual(given[-3], [0])
        self.assertEqual(triples(given[-2]), [ALL_FOUND[4]])
        self.assertEqual(triples(given[-1]), [t for t in ALL_FOUND if t != ALL_FOUND[4]])

    def test_not_waived(self):
        board = PAIR + [("waive", 1, 0, 1)]
        self.assertRefused(PAIR, ("unwaive", 1, 0, 1), -7)
        for breach in ((1, 1, 0), (2, 0, 1), (1, 0, 2), (0, 0, 0), (-1, -1, -1), (8, 0, 1), (INT_LOW, 0, 1),
                       (1, INT_HIGH, 1), (1, 0, INT_LOW)):
            self.assertRefused(board, ("unwaive", *breach), -7)
        self.assertRefused(board + [("unwaive", 1, 0, 1)], ("unwaive", 1, 0, 1), -7)

    def test_of_what_is_not_there_any_more(self):
        for change in (("move", 1, 9, 0), ("remove", 1), ("give", 1, 0), ("lift", 0, 2)):
            given = talk(*PAIR, ("waive", 1, 0, 1), change, ("unwaive", 1, 0, 1), ("waivers",), ("check",))
            self.assertEqual(given[-3:], [[0], [0], [0]])


class Waivers(unittest.TestCase):
    def test_none(self):
        self.assertEqual(last(("waivers",)), [0])
        self.assertEqual(last(*PAIR, ("waivers",)), [0])

    def test_in_the_order_of_breaches(self):
        mixed = ALL_FOUND[::-1][::2] + ALL_FOUND[::-1][1::2]
        self.assertEqual(waived(*ALL_KINDS, *waive(mixed)), ALL_FOUND)
        self.assertEqual(waived(*HEAP, *waive(HEAP_FOUND[::-1][:64])), HEAP_FOUND[2:])

    def test_of_items_that_are_gone(self):
        board = [*PAIR, ("disc", 1, 2, 0, 0, 5), ("waive", 1, 0, 1), ("waive", 1, 1, 2)]
        self.assertEqual(waived(*board, ("remove", 1)), [(1, 0, 1), (1, 1, 2)])
        self.assertEqual(waived(*board, ("remove", 0), ("remove", 1), ("remove", 2)), [(1, 0, 1), (1, 1, 2)])

    def test_a_new_item_is_not_the_one_that_is_gone(self):
        board = [*PAIR, ("waive", 1, 0, 1), ("remove", 1), ("disc", 1, 1, 8, 0, 5)]
        self.assertEqual(checked(*board), [(1, 0, 2)])
        self.assertEqual(waived(*board), [(1, 0, 1)])

    def test_a_breach_that_comes_again_is_still_waived(self):
        for away, back in ((("move", 1, 9, 0), ("move", 1, -9, 0)), (("give", 1, 0), ("give", 1, 7)),
                           (("lift", 0, 2), ("lift", 0, 1))):
            board = [*PAIR, ("waive", 1, 0, 1), away, ("check",), ("waivers",), back, ("check",), ("waivers",)]
            given = talk(*board)
            self.assertEqual(given[4:6], [[0], [1, 1, 0, 1]])
            self.assertEqual(given[7:], [[0], [1, 1, 0, 1]])

    def test_rules_that_come_and_go(self):
        board = [("bar", 1, 0, 0, 0, 9, 0, 4), rule(width=5), ("waive", 5, 0, 0), rule(width=1), ("check",),
                 ("waivers",), rule(width=9), ("check",), ("unwaive", 5, 0, 0), ("check",)]
        self.assertEqual(talk(*board)[4:], [[0], [1, 5, 0, 0], [0], [0], [0], [1, 5, 0, 0]])

    def test_layers_that_come_and_go(self):
        board = [("hole", 0, 0, 0, 5), ("waive", 7, 0, 2), ("layers", 1), ("check",), ("waive", 7, 0, 2),
                 ("layers", 3), ("check",), ("waivers",)]
        self.assertEqual(talk(*board)[1:], [[0], [0], [1, 7, 0, 1], [-6], [0], [2, 7, 0, 1, 7, 0, 3], [1, 7, 0, 2]])

    def test_an_outline_that_comes_and_goes(self):
        square = ("outline", [0, 0, 9, 0, 9, 9, 0, 9])
        board = [("disc", 1, 0, 0, 0, 5), square, ("waive", 6, 0, 0), ("outline", []), ("check",), square, ("check",),
                 ("waivers",)]
        self.assertEqual(talk(*board)[2:], [[0], [0], [0], [0], [0], [1, 6, 0, 0]])

    def test_they_change_nothing_else(self):
        rest = [("items",), ("worst",), ("narrowest",), ("room", 0, 1), ("distance", 0, 1)]
        self.assertEqual(talk(*ALL_KINDS, *waive(ALL_FOUND), *rest)[-5:], talk(*ALL_KINDS, *rest)[-5:])


if __name__ == "__main__":
    unittest.main()
