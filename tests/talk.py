"""Calls by their names, for tests: handed to the program as one list, answered as one list a call."""

import unittest

from copperrules.board import answers

NAMES = ["layers", "rule", "net", "hole_gap", "outline", "disc", "bar", "polygon", "hole", "remove", "move", "give",
         "lift", "items", "check", "check_one", "would_disc", "would_bar", "would_hole", "waive", "unwaive", "waivers",
         "room", "distance", "worst", "narrowest", "report", "by_classes", "mark", "news", "gone", "shift_all",
         "turn_all", "flip_all"]
BIG = 1000000000
INT_LOW = -2147483648
INT_HIGH = 2147483647
# What these answer differs if almost anything of the board differs.
PROBE = [("items",), ("check",), ("waivers",), ("news",), ("gone",), ("worst",), ("narrowest",), ("by_classes",),
         ("disc", 1, 77, 0, 0, 1), ("hole", 77, 0, 0, 1), ("check",), ("turn_all", 1), ("check",)]


def flat(calls):
    numbers = []
    for call in calls:
        numbers.append(NAMES.index(call[0]))
        for told in call[1:]:
            if isinstance(told, list):
                numbers.append(len(told))
                numbers.extend(told)
            else:
                numbers.append(told)
    return numbers


def split(given):
    found = []
    place = 0
    while place < len(given):
        behind = place + 1 + given[place]
        found.append(given[place + 1:behind])
        place = behind
    return found


def talk(*calls):
    given = split(answers(flat(calls)))
    assert len(given) == len(calls), given
    return given


def last(*calls):
    return talk(*calls)[-1]


def triples(answer):
    assert len(answer) == 1 + 3 * answer[0], answer
    return [tuple(answer[k:k + 3]) for k in range(1, len(answer), 3)]


def checked(*calls):
    return triples(last(*calls, ("check",)))


def kinds(*calls):
    return [kind for kind, a, b in checked(*calls)]


def listed(*calls):
    """Each item as (number, owner, layer, radius, points)."""
    answer = last(*calls, ("items",))
    found = []
    place = 1
    while place < len(answer):
        count = answer[place + 4]
        row = answer[place + 5:place + 5 + 2 * count]
        points = [(row[k], row[k + 1]) for k in range(0, len(row), 2)]
        found.append((answer[place], answer[place + 1], answer[place + 2], answer[place + 3], points))
        place += 5 + 2 * count
    assert len(found) == answer[0], answer
    return found


class Same(unittest.TestCase):
    """For tests of refusals: nothing has changed behind one."""

    def assertRefused(self, board, call, number):
        given = talk(*board, call, *PROBE)
        self.assertEqual(given[len(board)], [number], call)
        self.assertEqual(given[len(board) + 1:], talk(*board, *PROBE)[len(board):], call)
