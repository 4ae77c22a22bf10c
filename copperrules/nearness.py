"""Of all pairs of items the one that's nearest to breaking its gap, and the one with the least room."""

from copperrules.breaches import gap_to_keep
from copperrules.measure import box_distance, in_least_terms

# A fraction that is more than every share where two are compared crosswise.
ENDLESS = (1, 0)


# By the lesser number, then by the greater one: of several that are alike the first one found is the one to tell.
def pairs_of(items):
    found = []
    for k, one in enumerate(items):
        found.extend([(one, other) for other in items[k + 1:]])
    return found


def is_less(share, other):
    return share[0] * other[1] < other[0] * share[1]


# The two items and their share; None if no pair must keep a gap.
def worst_pair(board):
    worst = None
    least = ENDLESS
    for one, other in pairs_of(board.all_items()):
        gap = gap_to_keep(board, one, other)
        if gap is None:
            continue
        reach = one.shape.radius + other.shape.radius + gap
        if not is_less((box_distance(one.shape, other.shape), reach * reach), least):
            continue
        square = board.gauge.distance(one.shape, other.shape)
        share = (square[0], square[1] * reach * reach)
        if is_less(share, least):
            least = share
            worst = (one.number, other.number)
    return None if worst is None else worst + in_least_terms(least)


def are_unlike_on_one_layer(one, other):
    return not one.is_hole() and one.layer == other.layer and one.owner != other.owner


# The two items and their room; None if no two pieces of unlike owners lie on one layer.
def narrowest_pair(board):
    narrowest = None
    for one, other in pairs_of(board.all_items()):
        if not are_unlike_on_one_layer(one, other):
            continue
        if narrowest is None or not board.gauge.apart(one.shape, other.shape, narrowest[2]):
            narrowest = (one.number, other.number, board.gauge.room(one.shape, other.shape))
        # None has less, and a later one that has no room either isn't the one to tell.
        if narrowest[2] == 0:
            return narrowest
    return narrowest
