"""TOLLS, RECKONINGS, and the checks of the papers on TOLLS."""

from lockkeeper.clocks import behind_hours, fits, is_gap, is_heard, is_residue, need_clock
from lockkeeper.errors import BadNumber, BadPaper, BadToll
from lockkeeper.kinds import are_up_to, is_ascending, is_from, is_integer, is_tuple_of, is_within, is_worded


def is_call(thing, number):
    """Whether any value is a CALL with this number."""
    if not is_tuple_of(thing, 2) or not is_heard(thing[1]):
        return False
    return thing[0] is None if number == 0 else is_gap(thing[0])


def need_tolls(thing):
    """The thing itself, if it is TOLLS."""
    if not is_tuple_of(thing, 2):
        raise BadToll("form")
    need_clock(thing[0])
    calls = thing[1]
    if not isinstance(calls, tuple) or not 1 <= len(calls) <= 6:
        raise BadToll("calls")
    for number, call in enumerate(calls):
        if not is_call(call, number):
            raise BadToll(number)
    if sum([gap[1] for gap, _ in calls[1:]]) > 24:
        raise BadToll("hours")
    return thing


def need_number(tolls, number):
    """The number itself, if it is that of a CALL."""
    if not is_within(number, 0, len(tolls[1]) - 1):
        raise BadNumber(number)
    return number


def need_span(tolls, first, last):
    """Refuses what are no numbers of two CALLS, the first one no later than the second one."""
    need_number(tolls, first)
    if need_number(tolls, last) < first:
        raise BadNumber(last)


def are_hours(tolls, value):
    """Whether any value is a tuple of HOURS within the GAPS."""
    calls = tolls[1]
    if not is_tuple_of(value, len(calls) - 1):
        return False
    return all([is_within(hours, call[0][0], call[0][1]) for hours, call in zip(value, calls[1:])])


def residues_at(clock, residue, hours):
    """The tuple of the RESIDUES at all CALLS."""
    residues = [residue]
    for many in hours:
        residues.append(behind_hours(clock, residues[-1], many))
    return tuple(residues)


def all_fit(tolls, residue, hours):
    """Whether each HEARD fits the RESIDUE at its CALL."""
    clock, calls = tolls
    residues = residues_at(clock, residue, hours)
    return all([fits(clock, call[1], at) for call, at in zip(calls, residues)])


def does_agree(tolls, residue, hours):
    """Whether any two values are a RESIDUE and HOURS of a RECKONING that agrees."""
    return is_residue(tolls[0], residue) and are_hours(tolls, hours) and all_fit(tolls, residue, hours)


def is_reckoning(tolls, value):
    """Whether any value is a RECKONING that agrees."""
    need_tolls(tolls)
    return is_tuple_of(value, 2) and does_agree(tolls, value[0], value[1])


def call_residues(tolls, reckoning):
    """The tuple of the RESIDUES that a RECKONING that agrees has at the CALLS."""
    if not is_reckoning(tolls, reckoning):
        raise BadNumber(reckoning)
    return residues_at(tolls[0], reckoning[0], reckoning[1])


def fitting(clock, call):
    """The list of all RESIDUES that the HEARD of a CALL fits."""
    return [residue for residue in range(len(clock[0])) if fits(clock, call[1], residue)]


def led_by_call(clock, call, residue):
    """The list of pairs (RESIDUE, HOURS) of all that go on from a RESIDUE to a further CALL."""
    least, most = call[0]
    reached = [(behind_hours(clock, residue, hours), hours) for hours in range(least, most + 1)]
    return [(behind, hours) for behind, hours in reached if fits(clock, call[1], behind)]


def is_toll_lot(clock, thing):
    """Whether any value is an ascending tuple of RESIDUES."""
    if not isinstance(thing, tuple):
        return False
    return all([is_residue(clock, residue) for residue in thing]) and is_ascending(thing)


def are_out_lots(tolls, lots):
    """Whether any value is LOTS as in a paper ("out", LOTS) that holds."""
    clock, calls = tolls
    if not isinstance(lots, tuple) or not 1 <= len(lots) <= len(calls):
        return False
    if not all([is_toll_lot(clock, lot) for lot in lots]) or lots[-1] != ():
        return False
    if not all([residue in lots[0] for residue in fitting(clock, calls[0])]):
        return False
    for number in range(1, len(lots)):
        for residue in lots[number - 1]:
            led = led_by_call(clock, calls[number], residue)
            if not all([behind in lots[number] for behind, _ in led]):
                return False
    return True


def check_agrees(tolls, residue, hours):
    """Refuses what is no paper ("agrees", RESIDUE, HOURS) that holds."""
    if not is_residue(tolls[0], residue):
        raise BadPaper("residue")
    if not are_hours(tolls, hours):
        raise BadPaper("hours")
    if not all_fit(tolls, residue, hours):
        raise BadPaper("heard")


def check_tolls(tolls, paper):
    """The first word of a paper on the TOLLS that holds."""
    need_tolls(tolls)
    if is_worded(paper, "agrees", 3):
        check_agrees(tolls, paper[1], paper[2])
        return "agrees"
    if not is_worded(paper, "out", 2):
        raise BadPaper("form")
    if not are_out_lots(tolls, paper[1]):
        raise BadPaper("lots")
    return "out"


def is_total_row(tolls, first, last, row):
    """Whether any value is a triple (TOTAL, RESIDUE, HOURS) as told."""
    if not is_tuple_of(row, 3) or not is_integer(row[0]) or not does_agree(tolls, row[1], row[2]):
        return False
    return row[0] == sum(row[2][first:last])


def are_total_rows(tolls, first, last, rows):
    """Whether any value is ROWS as in a paper on the TOTALS."""
    if not isinstance(rows, tuple):
        return False
    if not all([is_total_row(tolls, first, last, row) for row in rows]):
        return False
    return is_ascending([row[0] for row in rows])


def is_sum_lot(clock, thing):
    """Whether any value is an ascending tuple of pairs (RESIDUE, SUM)."""
    if not isinstance(thing, tuple):
        return False
    if not all([is_tuple_of(pair, 2) and is_residue(clock, pair[0]) and is_from(pair[1], 0) for pair in thing]):
        return False
    return is_ascending(thing)


def sums_behind(tolls, first, last, number, pair):
    """The list of the pairs (RESIDUE, SUM) at a CALL that come of one at the CALL ahead, each with its HOURS."""
    clock, calls = tolls
    is_counted = first < number <= last
    led = led_by_call(clock, calls[number], pair[0])
    return [((behind, pair[1] + hours if is_counted else pair[1]), hours) for behind, hours in led]


def are_sum_lots(tolls, first, last, lots):
    """Whether any value is LOTS as in a paper on the TOTALS, but for the last sentence on them."""
    clock, calls = tolls
    if not is_tuple_of(lots, len(calls)) or not all([is_sum_lot(clock, lot) for lot in lots]):
        return False
    if not all([(residue, 0) in lots[0] for residue in fitting(clock, calls[0])]):
        return False
    for number in range(1, len(lots)):
        held = {pair: True for pair in lots[number]}
        for pair in lots[number - 1]:
            if not all([behind in held for behind, _ in sums_behind(tolls, first, last, number, pair)]):
                return False
    return True


def check_toll_totals(tolls, first, last, paper):
    """The ascending tuple of the TOTALS, by a paper on them that holds."""
    need_tolls(tolls)
    need_span(tolls, first, last)
    if not is_worded(paper, "totals", 3):
        raise BadPaper("form")
    _, rows, lots = paper
    if not are_total_rows(tolls, first, last, rows):
        raise BadPaper("rows")
    if not are_sum_lots(tolls, first, last, lots):
        raise BadPaper("lots")
    totals = [row[0] for row in rows]
    if not all([pair[1] in totals for pair in lots[-1]]):
        raise BadPaper("sums")
    return tuple(totals)


def tolls_with(tolls, pair):
    """The TOLLS with a pair (MISSED, ADDED) in the place of the CLOCK's."""
    clock, calls = tolls
    return (clock[0], pair[0], pair[1]), calls


def is_keen_row(tolls, row):
    """Whether any value is a triple (KEEN, RESIDUE, HOURS) as told."""
    if not is_tuple_of(row, 3) or not are_up_to(row[0], (24, 24)):
        return False
    return does_agree(tolls_with(tolls, row[0]), row[1], row[2])


def is_keen_out(tolls, thing):
    """Whether any value is a pair (PAIR, LOTS) as told."""
    if not is_tuple_of(thing, 2) or not are_up_to(thing[0], (24, 24)):
        return False
    return are_out_lots(tolls_with(tolls, thing[0]), thing[1])


def is_no_greater(pair, other):
    """Whether a pair is no greater in both than another one."""
    return pair[0] <= other[0] and pair[1] <= other[1]


def is_decided(pair, keen_pairs, out_pairs):
    """Whether a KEEN is no greater in both than the pair, or this than a PAIR of OUTS."""
    if any([is_no_greater(keen, pair) for keen in keen_pairs]):
        return True
    return any([is_no_greater(pair, out) for out in out_pairs])


def are_least(pairs):
    """Whether none of the pairs is no greater in both than another one."""
    return not any([is_no_greater(pair, other) for pair in pairs for other in pairs if pair != other])


def firsts_ascend(things):
    """Whether the first things of tuples ascend: so do the tuples then, and none stands twice."""
    return is_ascending([thing[0] for thing in things])


def check_keens(tolls, paper):
    """The ascending tuple of the KEENS, by a paper on them that holds."""
    need_tolls(tolls)
    if not is_worded(paper, "keens", 3):
        raise BadPaper("form")
    _, rows, outs = paper
    if not isinstance(rows, tuple) or not all([is_keen_row(tolls, row) for row in rows]) or not firsts_ascend(rows):
        raise BadPaper("rows")
    if not isinstance(outs, tuple) or not all([is_keen_out(tolls, out) for out in outs]) or not firsts_ascend(outs):
        raise BadPaper("outs")
    keen_pairs = [row[0] for row in rows]
    if not are_least(keen_pairs):
        raise BadPaper("least")
    out_pairs = [out[0] for out in outs]
    for missed in range(25):
        if not all([is_decided((missed, added), keen_pairs, out_pairs) for added in range(25)]):
            raise BadPaper("every")
    return tuple(keen_pairs)
