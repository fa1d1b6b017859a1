"""STATES ahead of an ENTRY, behind it, possible there; whether a BOOK is right."""

from lockkeeper.bookpapers import (
    any_going, has_any, need_leading, road_at, roads_of, sets_on, sets_shared, spread, suiting_at)
from lockkeeper.books import need_book, need_entry
from lockkeeper.clocks import behind_hours
from lockkeeper.images import road_turned
from lockkeeper.stretches import empty_lot, whole_lot


def whole_sets(book):
    """The SETS of all STATES."""
    return (whole_lot(book[0]),) * len(book[1][0])


def sets_back(book, road, number, sets):
    """As led_back, of arguments that are known to be such, by the ROAD of the ENTRY."""
    least, most = book[2][number][0]
    suited = sets_shared(sets, suiting_at(book, number))
    # The RESIDUES go back, so each is told by how far it goes on instead.
    steps = {((), behind_hours(book[1], 0, -hours)): hours for hours in range(least, most + 1)}
    led = {(): [empty_lot(book[0])] * len(sets)}
    spread(road_turned(road), suited, steps, whole_sets(book), led)
    return tuple(led[()])


def led_back(book, number, sets):
    """The SETS of all STATES that lead by the ENTRY to one of the SETS that suits it."""
    need_leading(book, number, sets)
    return sets_back(book, road_at(book, number, {}), number, sets)


def tables_ahead(book, roads):
    """The list of the SETS ahead of each ENTRY."""
    tables = [suiting_at(book, 0)]
    for number in range(1, len(book[2])):
        tables.append(sets_on(book, roads[number], number, tables[-1], any_going))
    return tables


def tables_behind(book, roads):
    """The list of the SETS behind each ENTRY."""
    tables = [whole_sets(book)]
    for number in range(len(book[2]) - 1, 0, -1):
        tables.append(sets_back(book, roads[number], number, tables[-1]))
    return tables[::-1]


def tables_possible(book, roads):
    """The list of the SETS that are possible at each ENTRY."""
    aheads = tables_ahead(book, roads)
    behinds = tables_behind(book, roads)
    return [sets_shared(ahead, behind) for ahead, behind in zip(aheads, behinds)]


def states_ahead(book, number):
    """The SETS of the STATES that come ahead of the ENTRY."""
    need_entry(book, number)
    return tables_ahead(book, roads_of(book))[number]


def states_behind(book, number):
    """The SETS of the STATES that come behind the ENTRY."""
    need_entry(book, number)
    return tables_behind(book, roads_of(book))[number]


def states_possible(book, number):
    """The SETS of the STATES that are possible at the ENTRY."""
    need_entry(book, number)
    return tables_possible(book, roads_of(book))[number]


def first_wrong_by(book, roads):
    """As first_wrong, of what is known to be a BOOK, by its ROADS."""
    for number, sets in enumerate(tables_ahead(book, roads)):
        if not has_any(sets):
            return number
    return None


def first_wrong(book):
    """The number of the first wrong ENTRY, None if the BOOK is right."""
    return first_wrong_by(need_book(book), roads_of(book))


def is_right(book):
    """Whether the BOOK is right."""
    return first_wrong(book) is None
