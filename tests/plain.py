"""What the tests compare the program with: plain goings through everything, hour by hour."""

import functools
import itertools


class Odd:
    """A thing that can be compared with nothing."""

    def __eq__(self, other):
        raise AssertionError("a thing of any kind was compared")

    __hash__ = None

    def __lt__(self, other):
        raise AssertionError("a thing of any kind was compared")


# Things of other kinds than integers, tuples and words.
OTHERS = [None, True, False, 1.0, float("nan"), "", "ab", "abcd", b"ab", [], [0, 0], {}, {0: 1}, set(), object(), Odd(),
          int, len, range(4), 1j]


def variants(value):
    """All values with one thing otherwise, at any depth."""
    if type(value) is tuple:
        for at, part in enumerate(value):
            for other in variants(part):
                yield value[:at] + (other,) + value[at + 1:]
            yield value[:at] + value[at + 1:]
            yield value[:at + 1] + value[at:]
            if at:
                yield value[:at - 1] + (part, value[at - 1]) + value[at + 1:]
        yield list(value)
        yield value + (0,)
        yield value + (None,)
        yield None
        yield ()
    elif type(value) is int:
        yield from (value - 1, value + 1, -1 - value, float(value), bool(value), str(value), None, (), (value,))
    elif type(value) is str:
        yield from (value + "x", value[:-1], "to", "low", "first", "upper", "lower", None, 0, (value,), value.encode())
    else:
        yield from (0, (), (0, 0, 0, 0), "", False)


def same(one, other):
    """Whether two values are equal, and of the same kinds throughout."""
    if type(one) is not type(other):
        return False
    if type(one) is tuple:
        return len(one) == len(other) and all(same(a, b) for a, b in zip(one, other))
    return one == other


def stands(lock):
    return [(level, boats) for level in range(lock[0] + 1) for boats in range(lock[3] + 1)]


def hours_at(lock, stand):
    """All HOURS at a STAND, straight by [2]."""
    top, up, down, room = lock
    level, boats = stand
    hours = [("water", far) for far in range(top + 1) if far - level <= up and level - far <= down]
    gates = [gate for gate, at in (("upper", top), ("lower", 0)) if at == level]
    for gate, out, come in itertools.product(gates, range(3), range(5)):
        if out <= boats and boats - out + come <= room:
            hours.append((gate, out, come))
    return hours


def after(stand, hour):
    if hour[0] == "water":
        return (hour[1], stand[1])
    return (stand[0], stand[1] - hour[1] + hour[2])


def passed_after(passed, hour):
    if passed is None or hour[0] == "water":
        return passed
    at = 0 if hour[0] == "upper" else 2
    told = list(passed)
    told[at] += hour[2]
    told[at + 1] += hour[1]
    return tuple(told)


def ends_by_hours(lock, starts, wants, most):
    """For each number of HOURS up to the most the set of the STANDS to which COURSES lead that meet the WANTS."""
    marks, passed = wants
    now = {(stand, stand[0], stand[0], None if passed is None else (0, 0, 0, 0)) for stand in starts}
    told = []
    for _ in range(most + 1):
        now = {(stand, low, high, been) for stand, low, high, been in now
               if (marks is None or marks[0] <= low <= high <= marks[1])
               and (passed is None or all(a <= b for a, b in zip(been, passed)))}
        told.append({stand for stand, low, high, been in now
                     if (marks is None or (low, high) == marks) and been == passed})
        further = set()
        for stand, low, high, been in now:
            for hour in hours_at(lock, stand):
                behind = after(stand, hour)
                extent = (min(low, behind[0]), max(high, behind[0])) if marks else (0, 0)
                further.add((behind, *extent, passed_after(been, hour)))
        now = further
    return told


def least_by_hours(lock, stand, other, wants, most):
    """The NEED, or None if it is not at most so much."""
    for hours, ends in enumerate(ends_by_hours(lock, [stand], wants, most)):
        if other in ends:
            return hours
    return None


def lot_by_stands(lock, some):
    """The LOT of STANDS, level by level."""
    parts = []
    for boats in range(lock[3] + 1):
        ranges = []
        for level in range(lock[0] + 1):
            if (level, boats) in some:
                if ranges and ranges[-1][1] == level - 1:
                    ranges[-1] = (ranges[-1][0], level)
                else:
                    ranges.append((level, level))
        parts.append(tuple(ranges))
    return tuple(parts)


def stands_in(lot):
    return {(level, boats) for boats, part in enumerate(lot) for low, high in part for level in range(low, high + 1)}


# KNOTS and papers on NEEDS, straight by [6] and [7].

def straight(lock, level, far):
    step = lock[1] if far > level else lock[2]
    return -(-abs(far - level) // step)


def bottom_crest(lock, wants):
    return (0, lock[0]) if wants[0] is None else wants[0]


def knots(lock, stand, wants):
    """All things that have the form of a KNOT."""
    bottom, crest = bottom_crest(lock, wants)
    places = ["low", "high"] + (["first"] if bottom <= stand[0] <= crest else [])
    lefts = [None] if wants[1] is None else itertools.product(*[range(many + 1) for many in wants[1]])
    mets = [(1, 1)] if wants[0] is None else itertools.product((0, 1), repeat=2)
    return list(itertools.product(places, range(lock[3] + 1), list(lefts), list(mets)))


def knot_level(lock, stand, wants, knot):
    bottom, crest = bottom_crest(lock, wants)
    return {"first": stand[0], "low": bottom, "high": crest}[knot[0]]


def plain_first(lock, stand, wants):
    bottom, crest = bottom_crest(lock, wants)
    if stand[0] < bottom or stand[0] > crest:
        return None
    met = (1, 1) if wants[0] is None else (int(stand[0] == bottom), int(stand[0] == crest))
    return ("first", stand[1], wants[1], met)


def plain_steps(lock, stand, wants, knot):
    """A dict of all KNOTS to which a step leads, with the fewest HOURS."""
    bottom, crest = bottom_crest(lock, wants)
    place, boats, left, met = knot
    told = {}
    for goal, level in (("low", bottom), ("high", crest)):
        if goal != place:
            now = (1 if level == bottom else met[0], 1 if level == crest else met[1])
            told[(goal, boats, left, now)] = straight(lock, knot_level(lock, stand, wants, knot), level)
    gates = []
    if place == "low" and bottom == 0:
        gates.append("lower")
    if place == "high" and crest == lock[0]:
        gates.append("upper")
    for gate in gates:
        level = 0 if gate == "lower" else lock[0]
        for hour in hours_at(lock, (level, boats)) if lock[0] < 100 else gate_hours(lock, boats, gate):
            if hour[0] != gate or hour[1:] == (0, 0):
                continue
            been = passed_after((0, 0, 0, 0), hour)
            rest = None if left is None else tuple(a - b for a, b in zip(left, been))
            if rest is None or min(rest) >= 0:
                told[(place, boats - hour[1] + hour[2], rest, met)] = 1
    return told


def gate_hours(lock, boats, gate):
    return [(gate, out, come) for out in range(3) for come in range(5) if out <= boats and boats - out + come <= lock[3]]


def plain_end(lock, stand, other, wants, knot):
    bottom, crest = bottom_crest(lock, wants)
    if knot[1] != other[1] or (knot[2] is not None and any(knot[2])) or knot[3] != (1, 1):
        return None
    if other[0] < bottom or other[0] > crest:
        return None
    return straight(lock, knot_level(lock, stand, wants, knot), other[0])


def plain_way(lock, stand, way):
    """The quadruple that is told of a WAY, or None of what is none."""
    if type(way) is not tuple:
        return None
    here, total, levels, passed = stand, 0, [stand[0]], (0, 0, 0, 0)
    for leg in way:
        if type(leg) is not tuple or len(leg) != 3 or type(leg[1]) is not int or type(leg[2]) is not int:
            return None
        if leg[0] == "to" and type(leg[0]) is str:
            if not 0 <= leg[1] <= lock[0] or not max(1, straight(lock, here[0], leg[1])) <= leg[2] <= 10 ** 40:
                return None
            here, total = (leg[1], here[1]), total + leg[2]
        else:
            hours = [("upper", out, come) for out in range(3) for come in range(5)] if here[0] == lock[0] else []
            hours += [("lower", out, come) for out in range(3) for come in range(5)] if here[0] == 0 else []
            hours = [h for h in hours if h[1] <= here[1] and here[1] - h[1] + h[2] <= lock[3]]
            if not any(same(leg, h) for h in hours):
                return None
            here, total, passed = after(here, leg), total + 1, passed_after(passed, leg)
        levels.append(here[0])
    return here, total, (min(levels), max(levels)), passed


def judge_need(lock, stand, other, wants, paper):
    """The word of a paper that holds, or a pair of "bad" and the part."""
    if type(paper) is not tuple or not paper or (paper[0], len(paper)) not in (("need", 3), ("never", 2)):
        return ("bad", "form")
    forms = {repr(knot): knot for knot in knots(lock, stand, wants)}
    first = plain_first(lock, stand, wants)
    bad = ("bad", paper[0])
    rows = paper[-1]
    if type(rows) is not tuple:
        return bad
    if paper[0] == "never":
        if any(repr(knot) not in forms for knot in rows) or list(rows) != sorted(set(rows)):
            return bad
        if first is not None and first not in rows:
            return bad
        for knot in rows:
            if plain_end(lock, stand, other, wants, knot) is not None:
                return bad
            if set(plain_steps(lock, stand, wants, knot)) - set(rows):
                return bad
        return "never"
    told = plain_way(lock, stand, paper[1])
    if told is None or told[0] != other:
        return bad
    if wants[0] not in (None, told[2]) or wants[1] not in (None, told[3]):
        return bad
    if any(type(row) is not tuple or len(row) != 2 or repr(row[0]) not in forms or type(row[1]) is not int or row[1] < 1
           for row in rows):
        return bad
    lows = dict(rows)
    if len(lows) != len(rows) or list(rows) != sorted(rows) or lows.get(first, 0) != told[1]:
        return bad
    for knot, low in rows:
        end = plain_end(lock, stand, other, wants, knot)
        if end is not None and low > end:
            return bad
        if any(low > lows.get(goal, 0) + hours for goal, hours in plain_steps(lock, stand, wants, knot).items()):
            return bad
    return "need"


@functools.lru_cache(maxsize=None)
def needs_from(lock, stand, wants):
    """A dict of the NEEDS to all STANDS that COURSES lead to, by a search that ends when nothing new comes."""
    marks, passed = wants
    now = {(stand, stand[0], stand[0], None if passed is None else (0, 0, 0, 0))}
    seen, told, hours = set(), {}, 0
    while now:
        seen |= now
        further = set()
        for here, low, high, been in now:
            if marks is not None and not marks[0] <= low <= high <= marks[1]:
                continue
            if passed is not None and any(a > b for a, b in zip(been, passed)):
                continue
            if (marks is None or (low, high) == marks) and been == passed:
                told.setdefault(here, hours)
            for hour in hours_at(lock, here):
                behind = after(here, hour)
                extent = (min(low, behind[0]), max(high, behind[0])) if marks else (0, 0)
                further.add((behind, *extent, passed_after(been, hour)))
        now, hours = further - seen, hours + 1
    return told
