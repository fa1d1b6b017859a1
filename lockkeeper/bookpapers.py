"""STATES, SETS and HISTORIES of a BOOK, and the check of the PAPERS on it."""

from lockkeeper.books import need_book, need_entry, wants_at
from lockkeeper.clocks import behind_hours, fits, is_residue
from lockkeeper.courses import does_meet, last_stand, need_course
from lockkeeper.errors import BadCourse, BadHistory, BadNumber, BadPaper, BadSets, BadState
from lockkeeper.images import arrivals_by, lot_behind, road_of
from lockkeeper.kinds import is_tuple_of, is_within, is_worded
from lockkeeper.locks import is_stand
from lockkeeper.stretches import empty_lot, has_level, is_lot, lots_joined, lots_shared


def are_sets(book, thing):
    """Whether any value is SETS of the BOOK."""
    if not is_tuple_of(thing, len(book[1][0])):
        return False
    return all([is_lot(book[0], lot) for lot in thing])


def is_state(book, thing):
    """Whether any value is a STATE of the BOOK."""
    return is_tuple_of(thing, 2) and is_residue(book[1], thing[0]) and is_stand(book[0], thing[1])


def need_given_sets(book, thing):
    """As need_sets, of what is known to be a BOOK."""
    if not are_sets(book, thing):
        raise BadSets(thing)
    return thing


def need_given_state(book, thing):
    """As need_state, of what is known to be a BOOK."""
    if not is_state(book, thing):
        raise BadState(thing)
    return thing


def need_sets(book, thing):
    """The thing itself, if it is SETS."""
    need_book(book)
    return need_given_sets(book, thing)


def need_state(book, thing):
    """The thing itself, if it is a STATE."""
    need_book(book)
    return need_given_state(book, thing)


def no_sets(book):
    """The SETS of no STATE."""
    return (empty_lot(book[0]),) * len(book[1][0])


def sets_shared(sets, others):
    """The SETS of the STATES that both have."""
    return tuple([lots_shared(lot, other) for lot, other in zip(sets, others)])


def sets_joined(sets, others):
    """The SETS of the STATES that one of both has at least."""
    return tuple([lots_joined(lot, other) for lot, other in zip(sets, others)])


def are_sets_within(sets, others):
    """Whether the second SETS have all that the first ones have."""
    return sets_shared(sets, others) == sets


def has_any(sets):
    """Whether the SETS have a STATE."""
    return any([any(lot) for lot in sets])


def is_in_sets(sets, state):
    """Whether the SETS have the STATE."""
    residue, stand = state
    return has_level(sets[residue][stand[1]], stand[0])


def has_state(book, sets, state):
    """Whether the SETS have the STATE."""
    need_sets(book, sets)
    return is_in_sets(sets, need_given_state(book, state))


def suiting_at(book, number):
    """As suiting, of arguments that are known to be such."""
    lock, clock, entries = book
    _, heard, level, _, boats, _, _ = entries[number]
    levels = ((0, lock[0]),) if level is None else ((level, level),)
    lot = tuple([levels if boats in (None, many) else () for many in range(lock[3] + 1)])
    none = empty_lot(lock)
    return tuple([lot if fits(clock, heard, residue) else none for residue in range(len(clock[0]))])


def suiting(book, number):
    """The SETS of all STATES that suit the ENTRY."""
    need_entry(book, number)
    return suiting_at(book, number)


def road_at(book, number, known):
    """The ROAD of a further ENTRY, by what is known, a dict to which it is added."""
    wants = wants_at(book, number)
    most = book[2][number][0][1]
    if (wants, most) not in known:
        known[(wants, most)] = road_of(book[0], wants, most)
    return known[(wants, most)]


def roads_by(book, known):
    """The list of the ROADS of all ENTRIES, None for the first one, by what is known of the LOCK."""
    return [None] + [road_at(book, number, known) for number in range(1, len(book[2]))]


def roads_of(book):
    """The list of the ROADS of all ENTRIES, None for the first one."""
    return roads_by(book, {})


def any_going(number, key, hours):
    """Goes on with a KEY to an ENTRY, whatever the HOURS."""
    return key


def longest_steps(book, number, key, going):
    """A dict of the pairs (KEY, RESIDUE) to which a KEY goes on from the RESIDUE 0, each with its most HOURS."""
    least, most = book[2][number][0]
    steps = {}
    for hours in range(least, most + 1):
        further = going(number, key, hours)
        if further is not None:
            # With more HOURS an IMAGE has no fewer STANDS, so the most HOURS tell all.
            steps[(further, behind_hours(book[1], 0, hours))] = hours
    return steps


def spread(road, sets, steps, suits, layer):
    """Puts into a layer what steps lead to by a ROAD, of that what suits.

    A layer is a dict of KEYS; each has as many LOTS in a list as there are RESIDUES.
    """
    lock, wants, _ = road
    for residue, lot in enumerate(sets):
        if any(lot):
            arrivals = arrivals_by(road, lot)
            for further, shift in steps:
                there = (residue + shift) % len(sets)
                if any(suits[there]):
                    led = lot_behind(lock, wants, lot, arrivals, steps[(further, shift)])
                    held = layer.setdefault(further, [empty_lot(lock)] * len(sets))
                    held[there] = lots_joined(held[there], lots_shared(led, suits[there]))


def layer_on(book, road, number, layer, going):
    """The layer to which one at the ENTRY ahead leads by an ENTRY: a dict of KEYS and of SETS that have STATES.

    To what KEY a KEY goes on by HOURS, or None, is what going tells of the number, the KEY and the HOURS.
    """
    suits = suiting_at(book, number)
    further = {}
    for key in layer:
        spread(road, layer[key], longest_steps(book, number, key, going), suits, further)
    return {key: tuple(further[key]) for key in further if has_any(further[key])}


def is_layer_within(layer, held):
    """Whether the second layer has all that the first one has."""
    return all([key in held and are_sets_within(layer[key], held[key]) for key in layer])


def sets_on(book, road, number, sets, going):
    """The SETS to which SETS at the ENTRY ahead lead by an ENTRY."""
    return layer_on(book, road, number, {(): sets}, going).get((), no_sets(book))


def need_leading(book, number, sets):
    """Refuses what is no BOOK, no number of a further ENTRY, no SETS."""
    need_entry(book, number)
    if number == 0:
        raise BadNumber(number)
    need_given_sets(book, sets)


def led_on(book, number, sets):
    """The SETS of all STATES that suit the ENTRY and to which one of the SETS leads by it."""
    need_leading(book, number, sets)
    return sets_on(book, road_at(book, number, {}), number, sets, any_going)


def led_by(book, number, sets, hours):
    """As led_on, but by COURSES of just so many HOURS."""
    need_leading(book, number, sets)
    least, most = book[2][number][0]
    if not is_within(hours, least, most):
        raise BadNumber(hours)
    going = lambda at, key, many: key if many == hours else None
    return sets_on(book, road_at(book, number, {}), number, sets, going)


def is_course(lock, stand, thing):
    """Whether any value is a COURSE from the STAND."""
    try:
        need_course(lock, stand, thing)
    except BadCourse:
        return False
    return True


def need_given_history(book, thing):
    """As need_history, of what is known to be a BOOK."""
    if not is_tuple_of(thing, 3):
        raise BadHistory("form")
    lock, clock, entries = book
    residue, stand, courses = thing
    if not is_residue(clock, residue):
        raise BadHistory("residue")
    if not is_stand(lock, stand):
        raise BadHistory("stand")
    if not is_tuple_of(courses, len(entries) - 1):
        raise BadHistory("courses")
    here = stand
    for at, course in enumerate(courses):
        if not is_course(lock, here, course):
            raise BadHistory(at + 1)
        here = last_stand(lock, here, course)
    return thing


def need_history(book, thing):
    """The thing itself, if it is a HISTORY of the BOOK."""
    need_book(book)
    return need_given_history(book, thing)


def is_history(book, thing):
    """Whether any value is a HISTORY of what is known to be a BOOK."""
    try:
        need_given_history(book, thing)
    except BadHistory:
        return False
    return True


def states_by(book, history):
    """As states_in, of arguments that are known to be such."""
    residue, stand, courses = history
    states = [(residue, stand)]
    for course in courses:
        residue, stand = states[-1]
        further = last_stand(book[0], stand, course)
        states.append((behind_hours(book[1], residue, len(course)), further))
    return tuple(states)


def is_agreed(book, history):
    """Whether what is known to be a HISTORY of the BOOK agrees with it."""
    states = states_by(book, history)
    for number in range(len(states)):
        if not is_in_sets(suiting_at(book, number), states[number]):
            return False
    for number in range(1, len(states)):
        course = history[2][number - 1]
        least, most = book[2][number][0]
        if not least <= len(course) <= most:
            return False
        if not does_meet(book[0], states[number - 1][1], course, wants_at(book, number)):
            return False
    return True


def does_agree_with(book, value):
    """As agrees, of what is known to be a BOOK."""
    return is_history(book, value) and is_agreed(book, value)


def agrees(book, value):
    """Whether any value is a HISTORY of the BOOK that agrees with it."""
    need_book(book)
    return does_agree_with(book, value)


def states_in(book, history):
    """The tuple of the STATES that the HISTORY has at all ENTRIES."""
    need_history(book, history)
    return states_by(book, history)


def are_tables(book, roads, tables):
    """Whether any value is TABLES by which a paper ("wrong", TABLES) holds."""
    if not isinstance(tables, tuple) or not 1 <= len(tables) <= len(book[2]):
        return False
    if not all([are_sets(book, sets) for sets in tables]) or has_any(tables[-1]):
        return False
    if not are_sets_within(suiting_at(book, 0), tables[0]):
        return False
    for number in range(1, len(tables)):
        led = sets_on(book, roads[number], number, tables[number - 1], any_going)
        if not are_sets_within(led, tables[number]):
            return False
    return True


def check_book(book, paper):
    """The word of a PAPER on the BOOK that holds."""
    need_book(book)
    if is_worded(paper, "right", 2):
        if not does_agree_with(book, paper[1]):
            raise BadPaper("right")
        return "right"
    if is_worded(paper, "wrong", 2):
        if not are_tables(book, roads_of(book), paper[1]):
            raise BadPaper("wrong")
        return "wrong"
    raise BadPaper("form")
