"""The calls on a board, handed in as one list of whole numbers, and what they answer."""

from copperrules.breaches import all_breaches, breaches_of, has_breach, shown
from copperrules.drafts import draft_bar, draft_disc, draft_hole, draft_polygon
from copperrules.measure import in_least_terms
from copperrules.nearness import narrowest_pair, worst_pair
from copperrules.refusals import (
    NO_SUCH_PAIR,
    refusal_of_give,
    refusal_of_hole_gap,
    refusal_of_layers,
    refusal_of_lift,
    refusal_of_move,
    refusal_of_net,
    refusal_of_number,
    refusal_of_outline,
    refusal_of_rule,
    refusal_of_shift_all,
    refusal_of_two_numbers,
    refusal_of_unwaive,
    refusal_of_waive,
)
from copperrules.shapes import points_of_row, polygon_form
from copperrules.state import Board, Rule
from copperrules.summary import counts_by_classes, counts_by_kinds


def call_layers(board, args):
    refusal = refusal_of_layers(board, args[0])
    if refusal == 0:
        board.set_layers(args[0])
    return [refusal]


def call_rule(board, args):
    refusal = refusal_of_rule(args[0], args[1], args[2], args[3], args[4])
    if refusal == 0:
        board.set_rule(args[0], Rule(args[1], args[2], args[3], args[4]))
    return [refusal]


def call_net(board, args):
    refusal = refusal_of_net(board, args[0], args[1])
    if refusal == 0:
        board.set_class(args[0], args[1])
    return [refusal]


def call_hole_gap(board, args):
    refusal = refusal_of_hole_gap(args[0])
    if refusal == 0:
        board.set_hole_gap(args[0])
    return [refusal]


def call_outline(board, args):
    refusal = refusal_of_outline(args[0])
    if refusal == 0:
        board.set_outline(polygon_form(points_of_row(args[0])) if args[0] else [])
    return [refusal]


def call_disc(board, args):
    return put_on(board, draft_disc(board, args))


def call_bar(board, args):
    return put_on(board, draft_bar(board, args))


def call_polygon(board, args):
    return put_on(board, draft_polygon(board, args))


def call_hole(board, args):
    return put_on(board, draft_hole(board, args))


def put_on(board, draft):
    if draft[0] != 0:
        return [draft[0]]
    board.put(draft[1])
    return [draft[1].number]


def call_remove(board, args):
    refusal = refusal_of_number(board, args[0])
    if refusal == 0:
        board.take_away(args[0])
    return [refusal]


def call_move(board, args):
    refusal = refusal_of_move(board, args[0], args[1], args[2])
    if refusal == 0:
        board.move(board.item_by_number[args[0]], args[1], args[2])
    return [refusal]


def call_give(board, args):
    refusal = refusal_of_give(board, args[0], args[1])
    if refusal == 0:
        board.give(board.item_by_number[args[0]], args[1])
    return [refusal]


def call_lift(board, args):
    refusal = refusal_of_lift(board, args[0], args[1])
    if refusal == 0:
        board.lift(board.item_by_number[args[0]], args[1])
    return [refusal]


def call_items(board, args):
    answer = [len(board.item_by_number)]
    for item in board.all_items():
        answer.extend([item.number, item.owner, item.layer, item.shape.radius, len(item.shape.points)])
        answer.extend(joined(item.shape.points))
    return answer


def call_check(board, args):
    return listed(shown(board, all_breaches(board)))


def call_check_one(board, args):
    refusal = refusal_of_number(board, args[0])
    if refusal != 0:
        return [refusal]
    return listed(shown(board, breaches_of(board, board.item_by_number[args[0]])))


def call_would_disc(board, args):
    return would_break(board, draft_disc(board, args))


def call_would_bar(board, args):
    return would_break(board, draft_bar(board, args))


def call_would_hole(board, args):
    return would_break(board, draft_hole(board, args))


def would_break(board, draft):
    if draft[0] != 0:
        return [draft[0]]
    return listed(breaches_of(board, draft[1]))


def call_waive(board, args):
    breach = tuple(args)
    refusal = refusal_of_waive(board, breach, has_breach(board, breach))
    if refusal == 0:
        board.waive(breach)
    return [refusal]


def call_unwaive(board, args):
    breach = tuple(args)
    refusal = refusal_of_unwaive(board, breach)
    if refusal == 0:
        board.unwaive(breach)
    return [refusal]


def call_waivers(board, args):
    return listed(sorted(board.waived))


def call_room(board, args):
    refusal = refusal_of_two_numbers(board, args[0], args[1])
    if refusal != 0:
        return [refusal]
    return [board.gauge.room(board.item_by_number[args[0]].shape, board.item_by_number[args[1]].shape)]


def call_distance(board, args):
    refusal = refusal_of_two_numbers(board, args[0], args[1])
    if refusal != 0:
        return [refusal]
    one = board.item_by_number[args[0]].shape
    other = board.item_by_number[args[1]].shape
    return list(in_least_terms(board.gauge.distance(one, other))) + [one.radius + other.radius]


def call_worst(board, args):
    return told_of_pair(worst_pair(board))


def call_narrowest(board, args):
    return told_of_pair(narrowest_pair(board))


def told_of_pair(pair):
    return [NO_SUCH_PAIR] if pair is None else list(pair)


def call_report(board, args):
    return counts_by_kinds(shown(board, all_breaches(board)))


def call_by_classes(board, args):
    return listed(counts_by_classes(board, shown(board, all_breaches(board))))


def call_mark(board, args):
    board.mark(shown(board, all_breaches(board)))
    return [len(board.marked)]


def call_news(board, args):
    return listed([breach for breach in shown(board, all_breaches(board)) if breach not in board.marked])


def call_gone(board, args):
    left = dict(board.marked)
    for breach in shown(board, all_breaches(board)):
        left.pop(breach, None)
    return listed(list(left))


def call_shift_all(board, args):
    refusal = refusal_of_shift_all(board, args[0], args[1])
    if refusal == 0:
        board.shift_all(args[0], args[1])
    return [refusal]


def call_turn_all(board, args):
    board.turn_all(args[0] % 4)
    return [0]


def call_flip_all(board, args):
    board.flip_all()
    return [0]


def joined(groups):
    numbers = []
    for group in groups:
        numbers.extend(group)
    return numbers


def listed(groups):
    return [len(groups)] + joined(groups)


# By the call's number: what does it, how many whole numbers it has, whether a row stands behind these.
CALLS = {
    0: (call_layers, 1, False),
    1: (call_rule, 5, False),
    2: (call_net, 2, False),
    3: (call_hole_gap, 1, False),
    4: (call_outline, 0, True),
    5: (call_disc, 5, False),
    6: (call_bar, 7, False),
    7: (call_polygon, 2, True),
    8: (call_hole, 4, False),
    9: (call_remove, 1, False),
    10: (call_move, 3, False),
    11: (call_give, 2, False),
    12: (call_lift, 2, False),
    13: (call_items, 0, False),
    14: (call_check, 0, False),
    15: (call_check_one, 1, False),
    16: (call_would_disc, 5, False),
    17: (call_would_bar, 7, False),
    18: (call_would_hole, 4, False),
    19: (call_waive, 3, False),
    20: (call_unwaive, 3, False),
    21: (call_waivers, 0, False),
    22: (call_room, 2, False),
    23: (call_distance, 2, False),
    24: (call_worst, 0, False),
    25: (call_narrowest, 0, False),
    26: (call_report, 0, False),
    27: (call_by_classes, 0, False),
    28: (call_mark, 0, False),
    29: (call_news, 0, False),
    30: (call_gone, 0, False),
    31: (call_shift_all, 2, False),
    32: (call_turn_all, 1, False),
    33: (call_flip_all, 0, False),
}


def answers(calls):
    board = Board()
    given = []
    place = 0
    while place < len(calls):
        entry = CALLS[calls[place]]
        behind = place + 1 + entry[1]
        args = calls[place + 1:behind]
        if entry[2]:
            start = behind + 1
            behind = start + calls[start - 1]
            args.append(calls[start:behind])
        handler = entry[0]
        answer = handler(board, args)
        given.append(len(answer))
        given.extend(answer)
        place = behind
    return given
