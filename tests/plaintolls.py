"""TOLLS by a plain going through all RECKONINGS, and the papers on them straight by [14]."""

import itertools

from tests.plain import same


def reckonings(tolls):
    """All RECKONINGS that agree, in their order."""
    (strokes, missed, added), calls = tolls
    ranges = [range(call[0][0], call[0][1] + 1) for call in calls[1:]]
    told = []
    for residue in range(len(strokes)):
        for hours in itertools.product(*ranges):
            if all(heard is None or strokes[at] - missed <= heard <= strokes[at] + added
                   for at, (_, heard) in zip(residues(tolls, residue, hours), calls)):
                told.append((residue, hours))
    return told


def residues(tolls, residue, hours):
    return [(residue + sum(hours[:at])) % len(tolls[0][0]) for at in range(len(hours) + 1)]


def up_to(tolls, number):
    return (tolls[0], tolls[1][:number + 1])


def first_wrong(tolls):
    for number in range(len(tolls[1])):
        if not reckonings(up_to(tolls, number)):
            return number
    return None


def ahead(tolls, number):
    told = reckonings(up_to(tolls, number))
    return tuple(sorted({residues(tolls, *reckoning)[number] for reckoning in told}))


def behind(tolls, number):
    calls = tolls[1]
    rest = (tolls[0], ((None, calls[number][1]),) + calls[number + 1:])
    return tuple(sorted({reckoning[0] for reckoning in reckonings(rest)}))


def may(tolls, number):
    return tuple(sorted({residues(tolls, *reckoning)[number] for reckoning in reckonings(tolls)}))


def totals(tolls, first, last):
    return tuple(sorted({sum(hours[first:last]) for _, hours in reckonings(tolls)}))


def heard_next(tolls, gap):
    """Pairs of the least and the greatest of all that may be heard next, side by side."""
    told = []
    for heard in range(100):
        if reckonings((tolls[0], tolls[1] + ((gap, heard),))):
            if told and told[-1][1] == heard - 1:
                told[-1] = (told[-1][0], heard)
            else:
                told.append((heard, heard))
    return tuple(told)


def with_pair(tolls, missed, added):
    return ((tolls[0][0], missed, added), tolls[1])


def keens(tolls):
    """All KEENS, by all pairs."""
    right = [(missed, added) for missed in range(25) for added in range(25) if reckonings(with_pair(tolls, missed, added))]
    return tuple(pair for pair in right
                 if not any(other != pair and other[0] <= pair[0] and other[1] <= pair[1] for other in right))


def is_int(thing, least, greatest):
    return type(thing) is int and least <= thing <= greatest


def ascends(things):
    return all(a < b for a, b in zip(things, things[1:]))


def agrees(tolls, residue, hours):
    return type(residue) is int and type(hours) is tuple and all(type(many) is int for many in hours) \
        and (residue, hours) in reckonings(tolls)


def is_paper(paper, word, many):
    return type(paper) is tuple and len(paper) == many and same(paper[0], word)


def led(tolls, number, residue):
    """All pairs of a RESIDUE at the CALL, and HOURS, to which a RESIDUE at the one ahead leads."""
    (strokes, missed, added), calls = tolls
    (least, most), heard = calls[number]
    for many in range(least, most + 1):
        there = (residue + many) % len(strokes)
        if heard is None or strokes[there] - missed <= heard <= strokes[there] + added:
            yield there, many


def are_out(tolls, lots):
    size = len(tolls[0][0])
    if type(lots) is not tuple or not 1 <= len(lots) <= len(tolls[1]):
        return False
    for lot in lots:
        if type(lot) is not tuple or not all(is_int(one, 0, size - 1) for one in lot) or not ascends(lot):
            return False
    if lots[-1] != () or set(ahead(up_to(tolls, 0), 0)) - set(lots[0]):
        return False
    return all(there in lots[number] for number in range(1, len(lots)) for one in lots[number - 1]
               for there, _ in led(tolls, number, one))


def judge_tolls(tolls, paper):
    size = len(tolls[0][0])
    if is_paper(paper, "agrees", 3):
        _, residue, hours = paper
        if not is_int(residue, 0, size - 1):
            return ("bad", "residue")
        gaps = [call[0] for call in tolls[1][1:]]
        if type(hours) is not tuple or len(hours) != len(gaps) \
                or not all(is_int(many, *gap) for many, gap in zip(hours, gaps)):
            return ("bad", "hours")
        return "agrees" if agrees(tolls, residue, hours) else ("bad", "heard")
    if is_paper(paper, "out", 2):
        return "out" if are_out(tolls, paper[1]) else ("bad", "lots")
    return ("bad", "form")


def judge_totals(tolls, first, last, paper):
    if not is_paper(paper, "totals", 3):
        return ("bad", "form")
    _, rows, lots = paper
    if type(rows) is not tuple or not all(type(row) is tuple and len(row) == 3 and type(row[0]) is int for row in rows):
        return ("bad", "rows")
    if not ascends([row[0] for row in rows]) or not all(agrees(tolls, row[1], row[2]) for row in rows):
        return ("bad", "rows")
    if not all(sum(row[2][first:last]) == row[0] for row in rows):
        return ("bad", "rows")
    size = len(tolls[0][0])
    if type(lots) is not tuple or len(lots) != len(tolls[1]):
        return ("bad", "lots")
    for lot in lots:
        if type(lot) is not tuple or not all(type(pair) is tuple and len(pair) == 2 and is_int(pair[0], 0, size - 1)
                                             and type(pair[1]) is int and pair[1] >= 0 for pair in lot):
            return ("bad", "lots")
        if not ascends(lot):
            return ("bad", "lots")
    if not all((one, 0) in lots[0] for one in ahead(up_to(tolls, 0), 0)):
        return ("bad", "lots")
    for number in range(1, len(lots)):
        for one, many in lots[number - 1]:
            for there, hours in led(tolls, number, one):
                if (there, many + hours * (first < number <= last)) not in lots[number]:
                    return ("bad", "lots")
    told = tuple(row[0] for row in rows)
    return told if all(pair[1] in told for pair in lots[-1]) else ("bad", "sums")


def is_pair(thing):
    return type(thing) is tuple and len(thing) == 2 and is_int(thing[0], 0, 24) and is_int(thing[1], 0, 24)


def judge_keens(tolls, paper):
    if not is_paper(paper, "keens", 3):
        return ("bad", "form")
    _, rows, outs = paper
    if type(rows) is not tuple or not all(type(row) is tuple and len(row) == 3 and is_pair(row[0]) for row in rows):
        return ("bad", "rows")
    if not all(agrees(with_pair(tolls, *row[0]), row[1], row[2]) for row in rows) or not ascends([row[0] for row in rows]):
        return ("bad", "rows")
    if type(outs) is not tuple or not all(type(out) is tuple and len(out) == 2 and is_pair(out[0]) for out in outs):
        return ("bad", "outs")
    if not all(are_out(with_pair(tolls, *out[0]), out[1]) for out in outs) or not ascends([out[0] for out in outs]):
        return ("bad", "outs")
    told = tuple(row[0] for row in rows)
    if any(a != b and a[0] >= b[0] and a[1] >= b[1] for a in told for b in told):
        return ("bad", "least")
    for missed, added in itertools.product(range(25), repeat=2):
        if not any(a <= missed and b <= added for a, b in told) \
                and not any(a >= missed and b >= added for (a, b), _ in outs):
            return ("bad", "every")
    return told
