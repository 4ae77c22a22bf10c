"""How many breaches there are of each kind, and between which classes."""

from copperrules.breaches import HOLE_AND_PIECE_TOO_NEAR, NO_RING, PIECES_TOUCH


def counts_by_kinds(breaches):
    kinds = [breach[0] for breach in breaches]
    return [kinds.count(kind) for kind in range(PIECES_TOUCH, NO_RING + 1)]


def classes_between(board, a, b):
    one = board.class_of(board.item_by_number[a].owner)
    other = board.class_of(board.item_by_number[b].owner)
    return (min(one, other), max(one, other))


def counts_by_classes(board, breaches):
    counts = {}
    for kind, a, b in breaches:
        if PIECES_TOUCH <= kind <= HOLE_AND_PIECE_TOO_NEAR:
            classes = classes_between(board, a, b)
            counts[classes] = counts.get(classes, 0) + 1
    return [(classes[0], classes[1], counts[classes]) for classes in sorted(counts)]
