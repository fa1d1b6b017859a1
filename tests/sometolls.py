"""TOLLS: some that are written out, and some by a chance that is the same each time."""

import random

TWELVE = tuple(range(1, 13))
FREE = ((None, None),)

WRITTEN = [
    (((3,), 0, 0), ((None, 3),)), (((3,), 0, 0), ((None, 4),)), (((3,), 0, 0), ((None, None),)),
    ((TWELVE, 0, 0), ((None, 3), ((0, 12), 7))), ((TWELVE, 0, 0), ((None, 3), ((0, 3), 7))),
    ((TWELVE, 1, 0), ((None, 3), ((1, 5), 7), ((0, 12), None), ((2, 3), 1))),
    (((1, 1, 2), 0, 0), ((None, 2), ((0, 4), 1), ((2, 2), 1), ((1, 2), None), ((0, 1), 2), ((0, 0), 2))),
    (((1, 1, 2), 0, 0), ((None, 2), ((1, 1), 1), ((1, 1), 1), ((1, 1), 1), ((0, 1), 2))),
    (((0, 24), 24, 24), ((None, 99), ((0, 12), 0))), (((0, 24), 0, 0), ((None, 0), ((1, 1), 48), ((12, 12), 0))),
    (((5, 5, 5, 5), 2, 3), ((None, 9), ((0, 5), None), ((1, 1), 2))), (((2, 4, 2, 4), 0, 1), ((None, 5), ((3, 9), 2))),
    ((TWELVE, 0, 0), FREE + (((0, 12), None), ((0, 12), None))), ((TWELVE, 3, 2), ((None, 0), ((12, 12), 14), ((12, 12), 0))),
    ((TWELVE, 0, 0), ((None, 3), ((1, 4), 99), ((1, 4), 3))),
]


def tolls_by_chance(many, seed=11, longest=4):
    """Many TOLLS of small CLOCKS."""
    chance = random.Random(seed)
    for _ in range(many):
        size = chance.choice((1, 2, 3, 4, 6))
        clock = (tuple(chance.randrange(7) for _ in range(size)), chance.randrange(3), chance.randrange(3))
        calls = []
        for number in range(chance.randrange(1, longest + 1)):
            least = chance.randrange(4)
            gap = (least, least + chance.randrange(4)) if number else None
            calls.append((gap, chance.choice((None, chance.randrange(9), chance.choice(clock[0])))))
        yield clock, tuple(calls)
