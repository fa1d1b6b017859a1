"""Small LOCKS and WANTS by them."""

LOCKS = [(0, 1, 1, 2), (0, 2, 3, 1), (0, 1, 1, 0), (1, 1, 1, 1), (2, 1, 2, 2), (3, 2, 1, 1), (4, 3, 1, 0), (5, 2, 3, 1),
         (3, 9, 1, 2)]
PASSED = [None, (0, 0, 0, 0), (1, 0, 0, 1), (0, 1, 1, 0), (1, 1, 0, 0), (0, 0, 0, 1), (0, 2, 2, 0), (1, 1, 1, 1),
          (2, 1, 1, 2)]


def wants_of(lock):
    top = lock[0]
    marks = [None] + sorted({(0, top), (0, top // 2), (top // 2, top), (top // 2, top // 2), (0, 0), (top, top),
                             (min(1, top), max(1, top - 1) if top else 0)})
    return [(some, passed) for some in marks for passed in PASSED]
