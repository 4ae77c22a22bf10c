"""New items from what a call tells of them, not yet put on: the refusal or 0, and the item or None."""

from copperrules.refusals import refusal_of_new_item, refusal_of_piece
from copperrules.shapes import bar_form, makes_bar, makes_disc, makes_polygon, points_of_row, polygon_form
from copperrules.state import LAYER_OF_HOLES


def draft_disc(board, args):
    points = [(args[2], args[3])]
    refusal = refusal_of_piece(board, args[0], args[1], makes_disc(points, args[4]))
    if refusal != 0:
        return (refusal, None)
    return (0, board.draft(args[0], args[1], points, args[4]))


def draft_bar(board, args):
    points = [(args[2], args[3]), (args[4], args[5])]
    refusal = refusal_of_piece(board, args[0], args[1], makes_bar(points, args[6]))
    if refusal != 0:
        return (refusal, None)
    return (0, board.draft(args[0], args[1], bar_form(points), args[6]))


def draft_polygon(board, args):
    refusal = refusal_of_piece(board, args[0], args[1], makes_polygon(args[2]))
    if refusal != 0:
        return (refusal, None)
    return (0, board.draft(args[0], args[1], polygon_form(points_of_row(args[2])), 0))


def draft_hole(board, args):
    points = [(args[1], args[2])]
    refusal = refusal_of_new_item(board, args[0], makes_disc(points, args[3]))
    if refusal != 0:
        return (refusal, None)
    return (0, board.draft(LAYER_OF_HOLES, args[0], points, args[3]))
