"""Calls by their names, for tests: handed to the program as one list, answered as one list a call."""

from copperrules.board import answers

NAMES = ["layers", "rule", "net", "hole_gap", "outline", "disc", "bar", "polygon", "hole", "remove", "move", "give",
         "lift", "items", "check", "check_one", "would_disc"]
BIG = 1000000000


def flat(calls):
    numbers = []
    for call in calls:
        numbers.append(NAMES.index(call[0]))
        for told in call[1:]:
            if isinstance(told, list):
                numbers.append(len(told))
                numbers.extend(told)
            else:
                numbers.append(told)
    return numbers


def split(given):
    found = []
    place = 0
    while place < len(given):
        behind = place + 1 + given[place]
        found.append(given[place + 1:behind])
        place = behind
    return found


def talk(*calls):
    given = split(answers(flat(calls)))
    assert len(given) == len(calls), given
    return given


def last(*calls):
    return talk(*calls)[-1]


def triples(answer):
    assert len(answer) == 1 + 3 * answer[0], answer
    return [tuple(answer[k:k + 3]) for k in range(1, len(answer), 3)]


def checked(*calls):
    return triples(last(*calls, ("check",)))


def kinds(*calls):
    return [kind for kind, a, b in checked(*calls)]


def listed(*calls):
    """Each item as (number, owner, layer, radius, points)."""
    answer = last(*calls, ("items",))
    found = []
    place = 1
    while place < len(answer):
        count = answer[place + 4]
        row = answer[place + 5:place + 5 + 2 * count]
        points = [(row[k], row[k + 1]) for k in range(0, len(row), 2)]
        found.append((answer[place], answer[place + 1], answer[place + 2], answer[place + 3], points))
        place += 5 + 2 * count
    assert len(found) == answer[0], answer
    return found
