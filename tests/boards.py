"""Boards that several tests share."""


def rule(gap=1, width=1, ring=0, edge=1):
    return ("rule", 0, gap, width, ring, edge)


def box(x1, y1, x2, y2):
    return [x1, y1, x2, y1, x2, y2, x1, y2]


# Breaches of all seven kinds; items are put on in an order that isn't that of the kinds.
ALL_KINDS = [
    rule(gap=3, width=4, ring=1, edge=2),
    ("outline", box(-100, -100, 100, 100)),
    ("hole", 0, 0, 0, 5),
    ("hole", 1, 8, 0, 3),
    ("disc", 1, 2, 0, 0, 7),
    ("bar", 1, 0, -50, -50, -50, 50, 3),
    ("disc", 1, 1, -45, 0, 1),
    ("polygon", 2, 0, box(-20, -20, 20, 20)),
    ("disc", 2, 3, 99, 0, 1),
    ("polygon", 1, 3, box(0, 5, 9, 9)),
]
ALL_FOUND = [(1, 2, 7), (2, 3, 4), (3, 0, 2), (3, 0, 7), (3, 1, 2), (3, 1, 5), (3, 1, 7), (4, 0, 1), (5, 3, 3),
             (6, 6, 6), (7, 0, 1), (7, 1, 1), (7, 1, 2)]
