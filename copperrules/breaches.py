"""The breaches of a board: triples kind, a, b."""

PIECES_TOUCH = 1
PIECES_TOO_NEAR = 2
HOLE_AND_PIECE_TOO_NEAR = 3
HOLES_TOO_NEAR = 4
BAR_TOO_NARROW = 5
NOT_INSIDE_OUTLINE = 6
NO_RING = 7


def all_breaches(board):
    renew_pairs(board)
    found = list(board.known_pairs)
    for item in board.all_items():
        found.extend(breaches_of_one(board, item))
    return sorted(found)


def renew_pairs(board):
    found = [breach for breach in board.known_pairs if breach[1] not in board.stale and breach[2] not in board.stale]
    met = [item for item in board.all_items() if item.number not in board.stale]
    for item in board.all_items():
        if item.number in board.stale:
            found.extend(breaches_of_pairs(board, item, met))
            met.append(item)
    board.keep_pairs(found)


def breaches_of(board, item):
    others = [other for other in board.all_items() if other.number != item.number]
    return sorted(breaches_of_pairs(board, item, others) + breaches_of_one(board, item))


def has_breach(board, breach):
    if breach[1] not in board.item_by_number:
        return False
    return breach in breaches_of(board, board.item_by_number[breach[1]])


def shown(board, breaches):
    return [breach for breach in breaches if breach not in board.waived]


def breaches_of_pairs(board, item, others):
    found = []
    for other in others:
        kind = kind_of_pair(board, item, other)
        if kind is not None:
            found.append((kind, min(item.number, other.number), max(item.number, other.number)))
    return found


# None where the two needn't keep a gap.
def gap_to_keep(board, one, other):
    if one.is_hole() and other.is_hole():
        return board.hole_gap
    if one.owner == other.owner:
        return None
    if one.layer != other.layer and not one.is_hole() and not other.is_hole():
        return None
    return max(board.rule_of(one.owner).gap, board.rule_of(other.owner).gap)


def kind_of_pair(board, one, other):
    gap = gap_to_keep(board, one, other)
    if gap is None or board.gauge.apart(one.shape, other.shape, gap):
        return None
    if one.is_hole() and other.is_hole():
        return HOLES_TOO_NEAR
    if one.is_hole() or other.is_hole():
        return HOLE_AND_PIECE_TOO_NEAR
    return PIECES_TOUCH if board.gauge.touch(one.shape, other.shape) else PIECES_TOO_NEAR


def breaches_of_one(board, item):
    rule = board.rule_of(item.owner)
    found = []
    if item.shape.is_bar() and item.shape.radius < rule.width:
        found.append((BAR_TOO_NARROW, item.number, item.number))
    if not keeps_from_edge(board, item, rule.edge):
        found.append((NOT_INSIDE_OUTLINE, item.number, item.number))
    if item.is_hole():
        found.extend([(NO_RING, item.number, layer) for layer in layers_without_ring(board, item)])
    return found


def keeps_from_edge(board, item, edge):
    if board.outline is None:
        return True
    return board.gauge.inside(item.shape, board.outline, item.shape.radius + edge)


def layers_without_ring(board, hole):
    radius = hole.shape.radius + board.rule_of(hole.owner).ring
    ringed = {}
    for piece in board.all_items():
        if piece.owner != hole.owner or piece.is_hole() or piece.layer in ringed:
            continue
        if holds_disc(board.gauge, piece.shape, hole.shape, radius):
            ringed[piece.layer] = True
    return [layer for layer in range(1, board.layers + 1) if layer not in ringed]


def holds_disc(gauge, shape, middle, radius):
    if shape.is_polygon():
        return gauge.inside(middle, shape, radius)
    return radius <= shape.radius and gauge.within_reach(middle, shape, shape.radius - radius)
