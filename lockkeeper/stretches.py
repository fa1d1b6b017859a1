"""STRETCHES and LOTS: sets of STANDS."""

from lockkeeper.errors import BadLot, BadStand
from lockkeeper.kinds import is_tuple_of
from lockkeeper.locks import is_level, is_stand, need_lock, need_stand


def are_stretches(lock, thing):
    """Whether any value is STRETCHES."""
    if not isinstance(thing, tuple):
        return False
    least = 0
    for pair in thing:
        if not is_tuple_of(pair, 2) or not is_level(lock, pair[0]) or not is_level(lock, pair[1]):
            return False
        if not least <= pair[0] <= pair[1]:
            return False
        least = pair[1] + 2
    return True


def is_lot(lock, thing):
    """Whether any value is a LOT."""
    return is_tuple_of(thing, lock[3] + 1) and all([are_stretches(lock, part) for part in thing])


def need_lot(lock, thing):
    """The thing itself, if it is a LOT."""
    need_lock(lock)
    if not is_lot(lock, thing):
        raise BadLot(thing)
    return thing


def joined(pairs):
    """The STRETCHES of all integers that are within one of the pairs (LEAST, GREATEST)."""
    stretches = []
    for least, greatest in sorted(pairs):
        if stretches and least <= stretches[-1][1] + 1:
            stretches[-1] = (stretches[-1][0], max(stretches[-1][1], greatest))
        else:
            stretches.append((least, greatest))
    return tuple(stretches)


def clipped(stretches, least, greatest):
    """Those STRETCHES that are within two integers, cut off there."""
    inside = [(low, high) for low, high in stretches if low <= greatest and high >= least]
    return tuple((max(low, least), min(high, greatest)) for low, high in inside)


def shared(stretches, others):
    """The STRETCHES of what is in both."""
    pairs = []
    at = 0
    for low, high in stretches:
        while at < len(others) and others[at][1] < low:
            at += 1
        further = at
        while further < len(others) and others[further][0] <= high:
            pairs.append((max(low, others[further][0]), min(high, others[further][1])))
            further += 1
    return tuple(pairs)


def left_over(lock, stretches):
    """The STRETCHES of all LEVELS that are in none of these."""
    pairs = []
    least = 0
    for low, high in stretches:
        if least < low:
            pairs.append((least, low - 1))
        least = high + 1
    if least <= lock[0]:
        pairs.append((least, lock[0]))
    return tuple(pairs)


def lots_shared(lot, another):
    """As both_lots, of what are known to be LOTS."""
    return tuple([shared(part, other) for part, other in zip(lot, another)])


def lots_joined(lot, another):
    """As either_lot, of what are known to be LOTS."""
    return tuple([joined(part + other) for part, other in zip(lot, another)])


def first_stand(lot):
    """As least_stand, of what is known to be a LOT."""
    firsts = [(part[0][0], boats) for boats, part in enumerate(lot) if part]
    return min(firsts, default=None)


def has_level(stretches, level):
    """Whether a level is within the STRETCHES."""
    return any([low <= level <= high for low, high in stretches])


def whole_lot(lock):
    """The LOT of all STANDS."""
    need_lock(lock)
    return (((0, lock[0]),),) * (lock[3] + 1)


def empty_lot(lock):
    """The LOT of no STAND."""
    need_lock(lock)
    return ((),) * (lock[3] + 1)


def lot_of(lock, stands):
    """The LOT of the STANDS of a tuple."""
    need_lock(lock)
    if not isinstance(stands, tuple):
        raise BadStand(stands)
    pairs = [[] for _ in range(lock[3] + 1)]
    for stand in stands:
        if not is_stand(lock, stand):
            raise BadStand(stand)
        pairs[stand[1]].append((stand[0], stand[0]))
    return tuple(joined(part) for part in pairs)


def has_stand(lock, lot, stand):
    """Whether the LOT has the STAND."""
    need_lot(lock, lot)
    need_stand(lock, stand)
    return has_level(lot[stand[1]], stand[0])


def both_lots(lock, lot, another):
    """The LOT of the STANDS that both have."""
    need_lot(lock, lot)
    need_lot(lock, another)
    return lots_shared(lot, another)


def either_lot(lock, lot, another):
    """The LOT of the STANDS that one of them has at least."""
    need_lot(lock, lot)
    need_lot(lock, another)
    return lots_joined(lot, another)


def other_stands(lock, lot):
    """The LOT of all STANDS that this one has not."""
    need_lot(lock, lot)
    return tuple(left_over(lock, part) for part in lot)


def is_lot_within(lock, lot, another):
    """Whether the second LOT has all that the first one has."""
    return both_lots(lock, lot, another) == lot


def many_stands(lock, lot):
    """How many STANDS the LOT has."""
    need_lot(lock, lot)
    return sum([high - low + 1 for part in lot for low, high in part])


def least_stand(lock, lot):
    """The least STAND that the LOT has, None if it has none."""
    return first_stand(need_lot(lock, lot))
