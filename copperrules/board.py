"""The calls on a board, handed in as one list of whole numbers, and what they answer."""

from copperrules.breaches import all_breaches, breaches_of
from copperrules.refusals import (
    refusal_of_give,
    refusal_of_hole_gap,
    refusal_of_layers,
    refusal_of_lift,
    refusal_of_move,
    refusal_of_net,
    refusal_of_new_item,
    refusal_of_number,
    refusal_of_outline,
    refusal_of_piece,
    refusal_of_rule,
)
from copperrules.shapes import bar_form, makes_bar, makes_disc, makes_polygon, points_of_row, polygon_form
from copperrules.state import LAYER_OF_HOLES, Board, Rule


def call_layers(board, args):
    refusal = refusal_of_layers(board, args[0])
    if refusal == 0:
        board.set_layers(args[0])
    return [refusal]


def call_rule(board, args):
    refusal = refusal_of_rule(args[0], args[1], args[2], args[3], args[4])
    if refusal == 0:
        board.set_rule(args[0], Rule(args[1], args[2], args[3], args[4]))
    return [refusal]


def call_net(board, args):
    refusal = refusal_of_net(board, args[0], args[1])
    if refusal == 0:
        board.set_class(args[0], args[1])
    return [refusal]


def call_hole_gap(board, args):
    refusal = refusal_of_hole_gap(args[0])
    if refusal == 0:
        board.set_hole_gap(args[0])
    return [refusal]


def call_outline(board, args):
    refusal = refusal_of_outline(args[0])
    if refusal == 0:
        board.set_outline(polygon_form(points_of_row(args[0])) if args[0] else [])
    return [refusal]


def call_disc(board, args):
    points = [(args[2], args[3])]
    refusal = refusal_of_piece(board, args[0], args[1], makes_disc(points, args[4]))
    if refusal != 0:
        return [refusal]
    return put_on(board, board.draft(args[0], args[1], points, args[4]))


def call_bar(board, args):
    points = [(args[2], args[3]), (args[4], args[5])]
    refusal = refusal_of_piece(board, args[0], args[1], makes_bar(points, args[6]))
    if refusal != 0:
        return [refusal]
    return put_on(board, board.draft(args[0], args[1], bar_form(points), args[6]))


def call_polygon(board, args):
    refusal = refusal_of_piece(board, args[0], args[1], makes_polygon(args[2]))
    if refusal != 0:
        return [refusal]
    return put_on(board, board.draft(args[0], args[1], polygon_form(points_of_row(args[2])), 0))


def call_hole(board, args):
    points = [(args[1], args[2])]
    refusal = refusal_of_new_item(board, args[0], makes_disc(points, args[3]))
    if refusal != 0:
        return [refusal]
    return put_on(board, board.draft(LAYER_OF_HOLES, args[0], points, args[3]))


def put_on(board, item):
    board.put(item)
    return [item.number]


def call_remove(board, args):
    refusal = refusal_of_number(board, args[0])
    if refusal == 0:
        board.take_away(args[0])
    return [refusal]


def call_move(board, args):
    refusal = refusal_of_move(board, args[0], args[1], args[2])
    if refusal == 0:
        board.move(board.item_by_number[args[0]], args[1], args[2])
    return [refusal]


def call_give(board, args):
    refusal = refusal_of_give(board, args[0], args[1])
    if refusal == 0:
        board.give(board.item_by_number[args[0]], args[1])
    return [refusal]


def call_lift(board, args):
    refusal = refusal_of_lift(board, args[0], args[1])
    if refusal == 0:
        board.lift(board.item_by_number[args[0]], args[1])
    return [refusal]


def call_items(board, args):
    answer = [len(board.item_by_number)]
    for item in board.all_items():
        answer.extend([item.number, item.owner, item.layer, item.shape.radius, len(item.shape.points)])
        answer.extend(joined(item.shape.points))
    return answer


def call_check(board, args):
    return listed(all_breaches(board))


def call_check_one(board, args):
    refusal = refusal_of_number(board, args[0])
    if refusal != 0:
        return [refusal]
    return listed(breaches_of(board, board.item_by_number[args[0]]))


def call_would_disc(board, args):
    points = [(args[2], args[3])]
    refusal = refusal_of_piece(board, args[0], args[1], makes_disc(points, args[4]))
    if refusal != 0:
        return [refusal]
    return listed(breaches_of(board, board.draft(args[0], args[1], points, args[4])))


def joined(groups):
    numbers = []
    for group in groups:
        numbers.extend(group)
    return numbers


def listed(breaches):
    return [len(breaches)] + joined(breaches)


# By the call's number: what does it, how many whole numbers it has, whether a row stands behind these.
CALLS = {
    0: (call_layers, 1, False),
    1: (call_rule, 5, False),
    2: (call_net, 2, False),
    3: (call_hole_gap, 1, False),
    4: (call_outline, 0, True),
    5: (call_disc, 5, False),
    6: (call_bar, 7, False),
    7: (call_polygon, 2, True),
    8: (call_hole, 4, False),
    9: (call_remove, 1, False),
    10: (call_move, 3, False),
    11: (call_give, 2, False),
    12: (call_lift, 2, False),
    13: (call_items, 0, False),
    14: (call_check, 0, False),
    15: (call_check_one, 1, False),
    16: (call_would_disc, 5, False),
}


def answers(calls):
    board = Board()
    given = []
    place = 0
    while place < len(calls):
        entry = CALLS[calls[place]]
        behind = place + 1 + entry[1]
        args = calls[place + 1:behind]
        if entry[2]:
            start = behind + 1
            behind = start + calls[start - 1]
            args.append(calls[start:behind])
        handler = entry[0]
        answer = handler(board, args)
        given.append(len(answer))
        given.extend(answer)
        place = behind
    return given
