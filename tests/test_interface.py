"""How calls are handed in and answers given back; nothing is changed, kept, printed."""

import contextlib
import copy
import io
import time
import unittest
from unittest import mock

import copperrules.board
from copperrules.board import answers
from tests.talk import BIG, NAMES, flat, split, talk

# Some of every call, refused ones among them.
ALL_CALLS = [
    ("layers", 3), ("layers", 9), ("rule", 0, 4, 3, 1, 2), ("rule", 16, 1, 1, 1, 1), ("net", 1, 2), ("net", -1, 2),
    ("hole_gap", 5), ("hole_gap", 0), ("outline", [0, 100, 100, 100, 100, 0, 0, 0]), ("outline", [1, 2, 3]),
    ("disc", 1, 0, 50, 50, 5), ("disc", 4, 0, 50, 50, 5), ("bar", 1, 1, 55, 55, 40, 40, 1), ("bar", 1, 1, 5, 5, 5, 5, 1),
    ("polygon", 2, 2, [60, 60, 50, 50, 60, 40]), ("polygon", 2, 2, []), ("hole", 0, 50, 50, 2), ("hole", 0, 0, 0, 0),
    ("items",), ("check",), ("move", 1, -3, 4), ("move", 9, 0, 0), ("give", 2, 0), ("give", 2, -1), ("lift", 2, 3),
    ("lift", 3, 1), ("check_one", 0), ("check_one", 7), ("would_disc", 1, 8, 50, 50, 5), ("would_disc", 0, 0, 0, 0, 1),
    ("would_bar", 1, 8, 50, 50, 60, 50, 5), ("would_bar", 1, 8, 5, 5, 5, 5, 5), ("would_hole", 8, 50, 50, 5),
    ("would_hole", 8, 50, 50, 0), ("waive", 7, 3, 2), ("waive", 7, 3, 9), ("waivers",), ("mark",), ("room", 0, 2),
    ("room", 0, 9), ("distance", 1, 2), ("distance", 9, 1), ("worst",), ("narrowest",), ("report",), ("by_classes",),
    ("unwaive", 7, 3, 2), ("unwaive", 7, 3, 2), ("move", 0, 20, 20), ("news",), ("gone",), ("shift_all", 40, -60),
    ("shift_all", BIG, 0), ("turn_all", -3), ("flip_all",), ("items",), ("check",),
    ("remove", 0), ("remove", 0), ("outline", []), ("items",), ("check",), ("remove", 1), ("remove", 2), ("worst",),
    ("narrowest",),
]


class Guarded(list):
    """A list that tells when something would be changed in it, even if it were changed back."""

    def refuse(self, *told, **named):
        raise AssertionError("what was handed in was changed")

    append = extend = insert = pop = remove = clear = sort = reverse = refuse
    __setitem__ = __delitem__ = __iadd__ = __imul__ = refuse


class HandedIn(unittest.TestCase):
    def test_how_calls_stand(self):
        self.assertEqual(answers([5, 1, 7, 3, -4, 5, 13]), [1, 0, 8, 1, 0, 7, 1, 5, 1, 3, -4])
        self.assertEqual(answers([6, 2, 7, 3, 4, 1, 2, 5, 13]), [1, 0, 10, 1, 0, 7, 2, 5, 2, 1, 2, 3, 4])
        self.assertEqual(answers([7, 1, 2, 6, 0, 0, 9, 0, 0, 9, 13]), [1, 0, 12, 1, 0, 2, 1, 0, 3, 0, 0, 9, 0, 0, 9])
        self.assertEqual(answers([8, 7, 3, -4, 5, 13]), [1, 0, 8, 1, 0, 7, 0, 5, 1, 3, -4])
        self.assertEqual(answers([4, 6, 0, 0, 9, 0, 0, 9, 4, 0, 4, 1, 5, 13]), [1, 0, 1, 0, 1, -3, 1, 0])
        self.assertEqual(answers([0, 3, 1, 2, 3, 4, 5, 6, 2, 7, 8, 3, 9, 13]), [1, 0, 1, 0, 1, 0, 1, 0, 1, 0])
        self.assertEqual(answers([8, 0, 0, 0, 5, 10, 0, 7, 8, 11, 0, 6, 12, 0, 1, 13, 9, 0, 13]),
                         [1, 0, 1, 0, 1, 0, 1, -1, 8, 1, 0, 6, 0, 5, 1, 7, 8, 1, 0, 1, 0])
        self.assertEqual(answers([0, 1, 8, 0, 0, 0, 5, 14, 15, 0, 16, 1, 3, 4, 0, 5]),
                         [1, 0, 1, 0, 4, 1, 7, 0, 1, 4, 1, 7, 0, 1, 4, 1, 3, 0, 1])

    def test_how_the_later_calls_stand(self):
        self.assertEqual(answers([5, 1, 0, 0, 0, 5, 17, 1, 7, 3, -4, 5, 6, 2, 18, 7, 30, 0, 2]),
                         [1, 0, 4, 1, 1, 0, 1, 7, 2, 7, 1, 1, 7, 1, 2])
        self.assertEqual(answers([8, 0, 0, 0, 5, 19, 7, 0, 2, 21, 14, 20, 7, 0, 2, 20, 7, 0, 2, 19, 7, 0, 3, 21]),
                         [1, 0, 1, 0, 4, 1, 7, 0, 2, 4, 1, 7, 0, 1, 1, 0, 1, -7, 1, -6, 1, 0])
        self.assertEqual(answers([5, 1, 0, 0, 0, 5, 5, 1, 1, 20, 0, 5, 22, 0, 1, 23, 0, 1, 24, 25, 22, 2, 0, 23, 0, 2]),
                         [1, 0, 1, 1, 1, 10, 3, 400, 1, 10, 4, 0, 1, 400, 121, 3, 0, 1, 10, 1, -1, 1, -1])
        self.assertEqual(answers([24, 25, 5, 1, 0, 0, 0, 5, 5, 1, 1, 2, 0, 5, 26, 27, 28, 9, 0, 29, 30]),
                         [1, -8, 1, -8, 1, 0, 1, 1, 7, 1, 0, 0, 0, 0, 0, 0, 4, 1, 0, 0, 1, 1, 1, 1, 0, 1, 0,
                          4, 1, 1, 0, 1])
        self.assertEqual(answers([5, 1, 7, 3, -4, 5, 31, 1, 2, 32, 5, 33, 13, 31, BIG, 0]),
                         [1, 0, 1, 0, 1, 0, 1, 0, 8, 1, 0, 7, 2, 5, 1, -2, 4, 1, 0])
        self.assertEqual(answers([5, 1, 7, 3, -4, 5, 31, BIG, 0]), [1, 0, 1, -2])

    def test_answers_greater_than_what_is_handed_in(self):
        given = answers([5, 1, 0, -BIG, -BIG, BIG, 5, 1, 1, BIG, BIG, BIG, 23, 0, 1, 22, 0, 1])
        self.assertEqual(given, [1, 0, 1, 1, 3, 8 * BIG * BIG, 1, 2 * BIG, 1, 828427124])

    def test_a_row_that_looks_like_calls(self):
        self.assertEqual(answers([7, 1, 0, 3, 13, 14, 13, 13, 4, 2, 13, 14, 13]), [1, -3, 1, 0, 1, -3, 1, 0])

    def test_one_call(self):
        self.assertEqual(answers([13]), [1, 0])
        self.assertEqual(answers([14]), [1, 0])

    def test_four_hundred_calls(self):
        self.assertEqual(answers([14] * 400), [1, 0] * 400)
        self.assertEqual(answers([33] * 400), [1, 0] * 400)
        self.assertEqual(answers([24, 25] * 200), [1, -8] * 400)

    def test_long_rows(self):
        calls = flat([("outline", [7] * 9990), ("polygon", 1, 0, [7] * 10000), ("outline", [7] * 9990), ("items",)])
        self.assertEqual(answers(calls), [1, -3, 1, -3, 1, -3, 1, 0])

    def test_it_is_not_changed(self):
        calls = flat(ALL_CALLS)
        kept = copy.deepcopy(calls)
        answers(calls)
        self.assertEqual(calls, kept)

    def test_not_for_a_while_either(self):
        calls = Guarded(flat(ALL_CALLS))
        self.assertEqual(answers(calls), answers(list(calls)))


class GivenBack(unittest.TestCase):
    def test_whole_numbers_alone(self):
        given = answers(flat(ALL_CALLS))
        self.assertIs(type(given), list)
        self.assertEqual({type(number) for number in given}, {int})

    def test_an_answer_for_each_call(self):
        given = talk(*ALL_CALLS)
        self.assertEqual(len(given), len(ALL_CALLS))
        self.assertEqual([answer for answer in given if answer[0] < 0],
                         [[-2], [-2], [-2], [-2], [-3], [-2], [-3], [-3], [-3], [-1], [-2], [-1], [-1], [-2], [-3],
                          [-3], [-6], [-1], [-1], [-7], [-2], [-1], [-8], [-8]])

    def test_every_call_is_among_them(self):
        self.assertEqual({call[0] for call in ALL_CALLS}, set(NAMES))
        self.assertEqual(len(NAMES), 34)

    def test_a_new_list_each_time(self):
        calls = flat(ALL_CALLS)
        first = answers(calls)
        kept = list(first)
        first.clear()
        self.assertEqual(answers(calls), kept)


class NothingKept(unittest.TestCase):
    def test_twice_the_same(self):
        calls = flat(ALL_CALLS)
        self.assertEqual(answers(calls), answers(calls))

    def test_each_begins_anew(self):
        plain = answers(flat([("hole", 0, 0, 0, 1), ("disc", 1, 1, 3, 0, 1), ("items",), ("check",)]))
        answers(flat(ALL_CALLS))
        answers(flat([("net", k, 5) for k in range(64)] + [("disc", 1, 0, 0, 0, 1)] * 128))
        self.assertEqual(answers(flat([("hole", 0, 0, 0, 1), ("disc", 1, 1, 3, 0, 1), ("items",), ("check",)])), plain)
        self.assertEqual(answers(flat([("net", 99, 5)])), [1, 0])

    def test_nothing_is_printed(self):
        said = io.StringIO()
        with contextlib.redirect_stdout(said), contextlib.redirect_stderr(said):
            answers(flat(ALL_CALLS))
        self.assertEqual(said.getvalue(), "")

    def test_nothing_is_read_or_imported(self):
        calls = flat(ALL_CALLS)
        wanted = answers(calls)
        with mock.patch("builtins.open", None), mock.patch("builtins.input", None), \
                mock.patch("builtins.__import__", None), mock.patch("builtins.print", None):
            given = answers(calls)
        self.assertEqual(given, wanted)

    def test_waivers_marks_and_motions_are_not_kept(self):
        board = [("hole", 0, 7, 3, 5), ("waivers",), ("news",), ("gone",), ("check",), ("items",)]
        plain = answers(flat(board))
        answers(flat(board + [("waive", 7, 0, 1), ("mark",), ("remove", 0), ("turn_all", 1), ("flip_all",)]))
        self.assertEqual(answers(flat(board)), plain)

    def test_its_name(self):
        self.assertIs(copperrules.board.answers, answers)


def saw(x, y, height):
    """A polygon of 32 corners with long teeth."""
    teeth = [(x + 10 * k, y + (height if k % 2 else 20)) for k in range(30)]
    return [v for p in [(x, y), (x + 290, y)] + teeth[::-1] for v in p]


class Long(unittest.TestCase):
    def test_many_large_polygons_and_many_checks(self):
        calls = [("rule", 0, BIG, 1, 0, 1), ("outline", saw(-9, -9, 90000))]
        for k in range(126):
            calls.append(("polygon", 1, k, saw(40 * (k % 12), 90 * (k // 12), 400)))
        calls += [("hole", 3, 0, 0, 5), ("hole", 4, 9, 9, 5)]
        for k in range(134):
            calls += [("move", k % 128, 3, -1), ("check",)]
        started = time.monotonic()
        given = split(answers(flat(calls)))
        self.assertLess(time.monotonic() - started, 120)
        self.assertEqual(len(given), 398)
        self.assertEqual({answer[0] >= 126 * 125 // 2 for answer in given[131::2]}, {True})

    def test_many_large_polygons_and_all_that_measures_pairs(self):
        asked = [("worst",), ("narrowest",), ("report",), ("by_classes",), ("mark",), ("news",), ("gone",)]
        calls = [("polygon", 1, k, saw(4000 * (k % 12), 9000 * (k // 12), 400)) for k in range(128)]
        for k in range(30):
            calls += [("move", 4 * k, 3, -1), (("flip_all",), ("turn_all", 1), ("shift_all", 5, 9))[k % 3]] + asked
        started = time.monotonic()
        given = split(answers(flat(calls)))
        self.assertLess(time.monotonic() - started, 120)
        self.assertEqual(len(given), 398)


if __name__ == "__main__":
    unittest.main()
