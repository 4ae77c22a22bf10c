"""Why calls are refused: the refusal's number, or 0 where there's none."""

from copperrules.shapes import in_range, makes_polygon, shifted
from copperrules.state import CLASSES

NO_SUCH_ITEM = -1
OUT_OF_BOUNDS = -2
NO_SHAPE = -3
FULL = -4
NO_SUCH_BREACH = -6
NOT_WAIVED = -7
NO_SUCH_PAIR = -8

MOST_LAYERS = 8
MOST_ITEMS = 128
MOST_OWNERS_TOLD = 64
MOST_WAIVED = 64
MOST = 1000000000


def is_owner(owner):
    return 0 <= owner <= MOST


def is_class(clazz):
    return 0 <= clazz < CLASSES


def is_layer(board, layer):
    return 1 <= layer <= board.layers


def is_gap(gap):
    return 1 <= gap <= MOST


def refusal_of_layers(board, layers):
    if not 1 <= layers <= MOST_LAYERS:
        return OUT_OF_BOUNDS
    if any([item.layer > layers for item in board.all_items()]):
        return OUT_OF_BOUNDS
    return 0


def refusal_of_rule(clazz, gap, width, ring, edge):
    fits = is_class(clazz) and is_gap(gap) and is_gap(width) and 0 <= ring <= MOST and is_gap(edge)
    return 0 if fits else OUT_OF_BOUNDS


def refusal_of_net(board, owner, clazz):
    if not is_owner(owner) or not is_class(clazz):
        return OUT_OF_BOUNDS
    if owner not in board.class_by_owner and len(board.class_by_owner) >= MOST_OWNERS_TOLD:
        return FULL
    return 0


def refusal_of_hole_gap(gap):
    return 0 if is_gap(gap) else OUT_OF_BOUNDS


def refusal_of_outline(row):
    return 0 if not row or makes_polygon(row) else NO_SHAPE


def refusal_of_piece(board, layer, owner, fits):
    if not is_layer(board, layer):
        return OUT_OF_BOUNDS
    return refusal_of_new_item(board, owner, fits)


def refusal_of_new_item(board, owner, fits):
    if not is_owner(owner):
        return OUT_OF_BOUNDS
    if not fits:
        return NO_SHAPE
    return FULL if len(board.item_by_number) >= MOST_ITEMS else 0


def refusal_of_number(board, number):
    return 0 if number in board.item_by_number else NO_SUCH_ITEM


def refusal_of_two_numbers(board, number, number2):
    refusal = refusal_of_number(board, number)
    return refusal if refusal != 0 else refusal_of_number(board, number2)


def refusal_of_move(board, number, dx, dy):
    if number not in board.item_by_number:
        return NO_SUCH_ITEM
    points = board.item_by_number[number].shape.points
    return 0 if in_range(shifted(points, dx, dy)) else OUT_OF_BOUNDS


def refusal_of_give(board, number, owner):
    if number not in board.item_by_number:
        return NO_SUCH_ITEM
    return 0 if is_owner(owner) else OUT_OF_BOUNDS


def refusal_of_lift(board, number, layer):
    if number not in board.item_by_number or board.item_by_number[number].is_hole():
        return NO_SUCH_ITEM
    return 0 if is_layer(board, layer) else OUT_OF_BOUNDS


def refusal_of_waive(board, breach, is_there):
    if not is_there:
        return NO_SUCH_BREACH
    return FULL if breach not in board.waived and len(board.waived) >= MOST_WAIVED else 0


def refusal_of_unwaive(board, breach):
    return 0 if breach in board.waived else NOT_WAIVED


def refusal_of_shift_all(board, dx, dy):
    fits = all([in_range(shifted(shape.points, dx, dy)) for shape in board.all_shapes()])
    return 0 if fits else OUT_OF_BOUNDS
