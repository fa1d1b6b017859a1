"""HISTORIES that agree with a BOOK, HISTORIES upside down and backwards, and PAPERS on the BOOK."""

from lockkeeper.bookpapers import (
    are_sets, has_any, is_in_sets, layer_on, need_given_history, need_given_state, roads_of, sets_shared, states_by,
    suiting_at)
from lockkeeper.books import need_book, need_entry, wants_at
from lockkeeper.clocks import behind_hours
from lockkeeper.courses import backwards, overturned
from lockkeeper.errors import BadNumber, BadSets, Nothing, Wrong
from lockkeeper.images import arrivals_by, lot_behind, road_turned
from lockkeeper.kinds import is_tuple_of, is_within
from lockkeeper.needs import course_between
from lockkeeper.stretches import first_stand, lot_of, lots_shared
from lockkeeper.tables import first_wrong_by, tables_ahead, tables_possible, whole_sets


def history_overturned(book, history):
    """The HISTORY upside down."""
    need_given_history(need_book(book), history)
    courses = []
    for (_, stand), course in zip(states_by(book, history), history[2]):
        courses.append(overturned(book[0], stand, course)[1])
    level, boats = history[1]
    return history[0], (book[0][0] - level, boats), tuple(courses)


def history_backwards(book, history):
    """The HISTORY backwards."""
    need_given_history(need_book(book), history)
    states = states_by(book, history)
    courses = []
    for (_, stand), course in zip(states, history[2]):
        courses.append(backwards(book[0], stand, course)[1])
    residue, last = states[-1]
    return behind_hours(book[1], 0, -residue), last, tuple(courses[::-1])


def first_state(sets):
    """The least RESIDUE of which the SETS have a STATE, with its least STAND; None if they have none."""
    for residue, lot in enumerate(sets):
        if any(lot):
            return residue, first_stand(lot)
    return None


def step_back(book, road, number, layer, key, state, going):
    """The triple (KEY, STATE, HOURS) of what in the layer at the ENTRY ahead leads to a KEY with a STATE."""
    back = road_turned(road)
    lock, wants, _ = back
    residue, stand = state
    lot = lot_of(lock, (stand,))
    arrivals = arrivals_by(back, lot)
    least, most = book[2][number][0]
    for hours in range(least, most + 1):
        origins = lot_behind(lock, wants, lot, arrivals, hours)
        before = behind_hours(book[1], residue, -hours)
        for earlier in layer:
            led = lots_shared(layer[earlier][before], origins)
            if any(led) and going(number, earlier, hours) == key:
                return earlier, (before, first_stand(led)), hours
    return None


def same_key(number, key):
    """A KEY at an ENTRY, as it is."""
    return key


def history_to(book, roads, layers, key, going, bare):
    """A HISTORY that goes through layers, one for each ENTRY, to a KEY of the last one.

    A KEY of a layer is one that layer_on tells of the layer ahead, by going, if bare(number, KEY) is that one.
    """
    state = first_state(layers[-1][key])
    courses = []
    for number in range(len(layers) - 1, 0, -1):
        led = bare(number, key)
        key, earlier, hours = step_back(book, roads[number], number, layers[number - 1], led, state, going)
        courses.append(course_between(book[0], earlier[1], state[1], wants_at(book, number), hours))
        state = earlier
    return state[0], state[1], tuple(courses[::-1])


def history_in(book, roads, layers, going):
    """A HISTORY that goes through layers, one for each ENTRY, each of what layer_on tells of the one ahead or less."""
    return history_to(book, roads, layers, min(layers[-1]), going, same_key)


def layer_within(layer, sets):
    """What of a layer the SETS have, but for KEYS without STATES."""
    within = {key: sets_shared(layer[key], sets) for key in layer}
    return {key: within[key] for key in within if has_any(within[key])}


def history_by(book, roads, tables, hours):
    """As history_through, of arguments that are known to be such, by the ROADS of the BOOK."""
    going = lambda at, key, many: key if hours is None or many == hours[at - 1] else None
    layers = [layer_within({(): suiting_at(book, 0)}, tables[0])]
    for number in range(1, len(tables)):
        led = layer_on(book, roads[number], number, layers[-1], going)
        layers.append(layer_within(led, tables[number]))
    return history_in(book, roads, layers, going) if layers[-1] else None


def need_right(book, roads):
    """Refuses a BOOK that is not right."""
    number = first_wrong_by(book, roads)
    if number is not None:
        raise Wrong(number)


def history_within(book, roads):
    """A HISTORY of the BOOK that agrees, by its ROADS; None if it is not right."""
    return history_by(book, roads, (whole_sets(book),) * len(book[2]), None)


def history_of(book):
    """A HISTORY that agrees with the BOOK."""
    roads = roads_of(need_book(book))
    need_right(book, roads)
    return history_within(book, roads)


def tables_with(book, number, state):
    """TABLES with all STATES at each ENTRY, but with this STATE alone at the ENTRY with this number."""
    tables = [whole_sets(book)] * len(book[2])
    residue, stand = state
    lots = [lot_of(book[0], (stand,) if at == residue else ()) for at in range(len(book[1][0]))]
    tables[number] = tuple(lots)
    return tuple(tables)


def history_with(book, number, state):
    """A HISTORY that agrees with the BOOK and has the STATE at the ENTRY."""
    need_entry(book, number)
    need_given_state(book, state)
    roads = roads_of(book)
    need_right(book, roads)
    if not is_in_sets(tables_possible(book, roads)[number], state):
        raise Nothing(state)
    return history_by(book, roads, tables_with(book, number, state), None)


def are_hours(book, thing):
    """Whether any value is a tuple of an integer from 0 to 12 for each further ENTRY."""
    if not is_tuple_of(thing, len(book[2]) - 1):
        return False
    return all([is_within(hours, 0, 12) for hours in thing])


def are_all_sets(book, thing):
    """Whether any value is a tuple of SETS, one for each ENTRY."""
    return is_tuple_of(thing, len(book[2])) and all([are_sets(book, sets) for sets in thing])


def history_through(book, tables, hours=None):
    """A HISTORY that agrees, has at each ENTRY a STATE of its SETS, and COURSES of so many HOURS; or None."""
    need_book(book)
    if not are_all_sets(book, tables):
        raise BadSets(tables)
    if hours is not None and not are_hours(book, hours):
        raise BadNumber(hours)
    return history_by(book, roads_of(book), tables, hours)


def wrong_tables(book, roads):
    """TABLES by which a BOOK that is not right is wrong."""
    number = first_wrong_by(book, roads)
    return tuple(tables_ahead(book, roads)[:number + 1])


def book_paper(book):
    """A PAPER on the BOOK."""
    roads = roads_of(need_book(book))
    history = history_within(book, roads)
    if history is None:
        return "wrong", wrong_tables(book, roads)
    return "right", history
