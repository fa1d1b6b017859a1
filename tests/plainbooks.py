"""BOOKS by a plain going through all HISTORIES, hour by hour."""

import functools
import itertools

from tests.plain import after, ends_by_hours, hours_at, lot_by_stands, passed_after, same, stands


@functools.lru_cache(maxsize=None)
def reached(lock, stand, wants, most):
    """For each number of HOURS up to the most the STANDS to which COURSES from the STAND lead that meet the WANTS."""
    return [sorted(ends) for ends in ends_by_hours(lock, [stand], wants, most)]


def all_states(book):
    return [(residue, stand) for residue in range(len(book[1][0])) for stand in stands(book[0])]


def does_suit(book, number, state):
    (strokes, missed, added), entry = book[1], book[2][number]
    residue, (level, boats) = state
    if entry[1] is not None and not strokes[residue] - missed <= entry[1] <= strokes[residue] + added:
        return False
    return entry[2] in (None, level) and entry[4] in (None, boats)


def led(book, number, state, hours=None):
    """Pairs of a STATE to which a STATE leads by an ENTRY, and of HOURS; whether it suits is not asked."""
    residue, stand = state
    least, most = book[2][number][0]
    told = reached(book[0], stand, (book[2][number][3], book[2][number][5]), most)
    for many in range(least, most + 1):
        if hours is None or hours == many:
            for further in told[many]:
                yield ((residue + many) % len(book[1][0]), further), many


@functools.lru_cache(maxsize=None)
def ways(book):
    """All pairs of the STATES and of the HOURS between them that HISTORIES which agree have."""
    told = [((state,), ()) for state in all_states(book) if does_suit(book, 0, state)]
    for number in range(1, len(book[2])):
        told = [(been + (state,), hours + (many,)) for been, hours in told
                for state, many in led(book, number, been[-1]) if does_suit(book, number, state)]
    return told


def many_ways(book):
    """How many pairs ways tells."""
    counts = {state: 1 for state in all_states(book) if does_suit(book, 0, state)}
    for number in range(1, len(book[2])):
        further = {}
        for state in counts:
            for behind, _ in led(book, number, state):
                if does_suit(book, number, behind):
                    further[behind] = further.get(behind, 0) + counts[state]
        counts = further
    return sum(counts.values())


def courses_of(lock, stand, many):
    """All COURSES from a STAND with so many HOURS."""
    if many == 0:
        return [()]
    return [(hour,) + rest for hour in hours_at(lock, stand) for rest in courses_of(lock, after(stand, hour), many - 1)]


def last_of(stand, course):
    for hour in course:
        stand = after(stand, hour)
    return stand


def meets(stand, course, wants):
    levels, passed = [stand[0]], (0, 0, 0, 0)
    for hour in course:
        passed = passed_after(passed, hour)
        stand = after(stand, hour)
        levels.append(stand[0])
    return wants[0] in (None, (min(levels), max(levels))) and wants[1] in (None, passed)


def histories(book):
    """All HISTORIES that agree, course by course."""
    told = [(state, (state,), ()) for state in all_states(book) if does_suit(book, 0, state)]
    for number in range(1, len(book[2])):
        _, _, _, marks, _, passed, _ = book[2][number]
        least, most = book[2][number][0]
        further = []
        for state, been, courses in told:
            residue, stand = state
            for many in range(least, most + 1):
                for course in courses_of(book[0], stand, many):
                    behind = ((residue + many) % len(book[1][0]), last_of(stand, course))
                    if meets(stand, course, (marks, passed)) and does_suit(book, number, behind):
                        further.append((behind, been + (behind,), courses + (course,)))
        told = further
    return [((been[0][0], been[0][1], courses), been) for _, been, courses in told]


def up_to(book, number):
    return book[0], book[1], book[2][:number + 1]


def sets_by_states(book, some):
    """The SETS of STATES."""
    return tuple(lot_by_stands(book[0], {stand for at, stand in some if at == residue})
                 for residue in range(len(book[1][0])))


def states_in_sets(sets):
    return {(residue, (level, boats)) for residue, lot in enumerate(sets) for boats, part in enumerate(lot)
            for low, high in part for level in range(low, high + 1)}


def first_wrong(book):
    for number in range(len(book[2])):
        if not ways(up_to(book, number)):
            return number
    return None


def ahead(book, number):
    return {been[number] for been, _ in ways(up_to(book, number))}


def behind(book, number):
    blank = (None,) * 6 + ((),)
    rest = (book[0], book[1], (blank,) + book[2][number + 1:])
    return {been[0] for been, _ in ways(rest)}


def possible(book, number):
    return {been[number] for been, _ in ways(book)}


def suiting(book, number):
    return {state for state in all_states(book) if does_suit(book, number, state)}


def led_on(book, number, some, hours=None):
    return {behind for state in some for behind, _ in led(book, number, state, hours) if does_suit(book, number, behind)}


def led_back(book, number, some):
    goals = {state for state in some if does_suit(book, number, state)}
    return {state for state in all_states(book) if any(behind in goals for behind, _ in led(book, number, state))}


# What any value is, straight by [2], [3] and [21].

def is_int(thing, low, high):
    return type(thing) is int and low <= thing <= high


def is_hour(lock, stand, thing):
    return any(same(thing, hour) for hour in hours_at(lock, stand))


def is_history(book, value):
    if type(value) is not tuple or len(value) != 3 or not is_int(value[0], 0, len(book[1][0]) - 1):
        return False
    _, stand, courses = value
    if not any(same(stand, one) for one in stands(book[0])):
        return False
    if type(courses) is not tuple or len(courses) != len(book[2]) - 1:
        return False
    for course in courses:
        if type(course) is not tuple or len(course) > 400:
            return False
        for hour in course:
            if not is_hour(book[0], stand, hour):
                return False
            stand = after(stand, hour)
    return True


def states_of(book, history):
    residue, stand, courses = history
    told = [(residue, stand)]
    for course in courses:
        residue, stand = (residue + len(course)) % len(book[1][0]), last_of(stand, course)
        told.append((residue, stand))
    return tuple(told)


def agrees(book, value):
    if not is_history(book, value):
        return False
    been = states_of(book, value)
    for number, entry in enumerate(book[2]):
        if not does_suit(book, number, been[number]):
            return False
        if number:
            course = value[2][number - 1]
            if not entry[0][0] <= len(course) <= entry[0][1]:
                return False
            if not meets(been[number - 1][1], course, (entry[3], entry[5])):
                return False
    return True


# BOUNDS and DUTIES, straight by [33] and [34], of a pair of STATES and HOURS.

def keeps(hours, bound):
    one, other, least, most = bound
    total = sum(hours[one:other])
    return total >= least and (most is None or total <= most)


def bound_by(book, duty):
    sign, other, _, _ = duty
    pairs = []
    for one, entry in enumerate(book[2]):
        later = [number for number in range(one + 1, len(book[2])) if other in book[2][number][6]]
        if sign in entry[6] and later:
            pairs.append((later[0], one))
    return tuple((one, last) for last, one in sorted(pairs))


def keeps_duty(book, hours, duty):
    totals = [sum(hours[one:other]) for one, other in bound_by(book, duty)]
    if duty[3] == "within":
        return all(total <= duty[2] for total in totals)
    return all(total >= duty[2] for total in totals)


def bounds_of(book, duty):
    pairs = bound_by(book, duty)
    told = []
    for other in sorted({last for _, last in pairs}):
        ones = [one for one, last in pairs if last == other]
        told.append((min(ones), other, 0, duty[2]) if duty[3] == "within" else (max(ones), other, duty[2], None))
    return tuple(told)


def standing(book, duty):
    kept = {keeps_duty(book, hours, duty) for _, hours in ways(book)}
    return {(True,): "kept", (False,): "broken"}.get(tuple(kept), "open")


def counts_on(bounds, number, counts, hours):
    """The COUNTS behind HOURS from the ENTRY ahead of this one, None if a BOUND is broken, sentence by sentence."""
    told = []
    for (one, other, least, most), count in zip(bounds, counts):
        runs = one <= number - 1 < other
        if not runs:
            told.append(0)
            continue
        if most is not None and count + hours > most:
            return None
        if number == other and count + hours < least:
            return None
        now = count + hours
        if most is None and now > least:
            now = least
        told.append(0 if number == other else now)
    return tuple(told)


# NOTES, straight by [40] to [42].

PLACES = {"boats": 4, "heard": 1, "level": 2, "marks": 3, "passed": 5}


def notes(book):
    return tuple((number, word) for number, entry in enumerate(book[2]) for word in sorted(PLACES)
                 if entry[PLACES[word]] is not None)


def without(book, bunch):
    entries = [list(entry) for entry in book[2]]
    for number, word in bunch:
        entries[number][PLACES[word]] = None
    return book[0], book[1], tuple(map(tuple, entries))


def alone(book, bunch):
    return without(book, [note for note in notes(book) if note not in bunch])


def bunches(book):
    some = notes(book)
    return [bunch for size in range(len(some) + 1) for bunch in itertools.combinations(some, size)]


def mends(book):
    rights = [set(bunch) for bunch in bunches(book) if ways(without(book, bunch))]
    return tuple(sorted(tuple(sorted(one)) for one in rights if not any(other < one for other in rights)))


def clashes(book):
    wrongs = [set(bunch) for bunch in bunches(book) if not ways(alone(book, bunch))]
    return tuple(sorted(tuple(sorted(one)) for one in wrongs if not any(other < one for other in wrongs)))


# LOOKS, straight by [50] and [52], of a pair of STATES and HOURS.

def look_by(been, hours, look):
    if look[0] == "between":
        return sum(hours[look[1]:look[2]]) >= look[3]
    residue, (level, boats) = been[look[1]]
    if look[0] == "hour":
        return residue in look[2]
    return (level if look[0] == "level" else boats) >= look[2]


def key_at(been, hours, looks, number):
    told, since = [], []
    for look in looks:
        last = look[2] if look[0] == "between" else look[1]
        told.append(2 if last > number else int(look_by(been, hours, look)))
        if look[0] == "between" and look[1] <= number < look[2]:
            since.append(min(look[3], sum(hours[look[1]:number])))
        else:
            since.append(-1)
    return been[number][0], tuple(told), tuple(since)


def marked(book, looks, number):
    rows = {}
    for been, hours in ways(up_to(book, number)):
        rows.setdefault(key_at(been, hours, looks, number), set()).add(been[number][1])
    return tuple((key, lot_by_stands(book[0], rows[key])) for key in sorted(rows))
