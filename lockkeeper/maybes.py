"""What may be by a right BOOK, what is sure, TOTALS, and what may be heard."""

from lockkeeper.bookpapers import has_any, layer_on, roads_of, sets_shared
from lockkeeper.books import need_book, need_entry
from lockkeeper.clocks import behind_hours, heard_range, is_gap
from lockkeeper.errors import BadGap, BadNumber
from lockkeeper.histories import need_right
from lockkeeper.kinds import is_within
from lockkeeper.stretches import joined
from lockkeeper.tables import first_wrong_by, tables_ahead, tables_behind, tables_possible


def possible_at(book, number):
    """The SETS of the STATES that are possible at the ENTRY of a right BOOK."""
    need_entry(book, number)
    roads = roads_of(book)
    need_right(book, roads)
    return tables_possible(book, roads)[number]


def levels_in(sets):
    """The levels of SETS, as STRETCHES."""
    return joined([pair for lot in sets for part in lot for pair in part])


def boats_in(sets):
    """The ascending tuple of the numbers of boats of SETS."""
    return tuple([boats for boats in range(len(sets[0])) if any([lot[boats] for lot in sets])])


def residues_in(sets):
    """The ascending tuple of the RESIDUES of SETS."""
    return tuple([residue for residue, lot in enumerate(sets) if any(lot)])


def may_levels(book, number):
    """The levels that may be at the ENTRY, as STRETCHES."""
    return levels_in(possible_at(book, number))


def may_boats(book, number):
    """The numbers of boats that may be at the ENTRY."""
    return boats_in(possible_at(book, number))


def may_residues(book, number):
    """The RESIDUES that may be at the ENTRY."""
    return residues_in(possible_at(book, number))


def sure_at(number, sets):
    """The list of the SURE THINGS at an ENTRY at which these SETS are possible."""
    things = []
    boats = boats_in(sets)
    if len(boats) == 1:
        things.append((number, "boats", boats[0]))
    levels = levels_in(sets)
    if len(levels) == 1 and levels[0][0] == levels[0][1]:
        things.append((number, "level", levels[0][0]))
    residues = residues_in(sets)
    if len(residues) == 1:
        things.append((number, "residue", residues[0]))
    return things


def sure_things(book):
    """The ascending tuple of all SURE THINGS."""
    roads = roads_of(need_book(book))
    need_right(book, roads)
    things = []
    for number, sets in enumerate(tables_possible(book, roads)):
        things.extend(sure_at(number, sets))
    return tuple(things)


def summing(number, total, hours):
    """Goes on with a number of HOURS to an ENTRY."""
    return total + hours


def totals(book, number, other):
    """The TOTALS of two ENTRIES."""
    need_entry(book, number)
    if not is_within(other, number, len(book[2]) - 1):
        raise BadNumber(other)
    roads = roads_of(book)
    need_right(book, roads)
    # Given the STATE at an ENTRY, what was and what comes hang on one another no more.
    layer = {0: tables_ahead(book, roads)[number]}
    for at in range(number + 1, other + 1):
        layer = layer_on(book, roads[at], at, layer, summing)
    behind = tables_behind(book, roads)[other]
    return tuple(sorted([total for total in layer if has_any(sets_shared(layer[total], behind))]))


def heard_in(clock, residues):
    """All integers that fit one of the RESIDUES, as STRETCHES."""
    return joined([heard_range(clock, residue) for residue in residues])


def may_hear(book, gap):
    """What may be heard a GAP behind the last ENTRY."""
    need_book(book)
    if not is_gap(gap):
        raise BadGap(gap)
    clock = book[1]
    residues = residues_in(possible_at(book, len(book[2]) - 1))
    return heard_in(clock, [behind_hours(clock, residue, hours)
                            for residue in residues for hours in range(gap[0], gap[1] + 1)])


def is_right_by(book, roads, clock):
    """Whether the BOOK is right with this CLOCK, by its ROADS, which do not hang on the CLOCK."""
    return first_wrong_by((book[0], clock, book[2]), roads) is None


def least_with(book, clocks):
    """The number of the first of CLOCKS with which the BOOK is right, None if there is none.

    If it is right with one of them, it is with each further one.
    """
    roads = roads_of(book)
    low = 0
    high = len(clocks)
    while low < high:
        middle = (low + high) // 2
        if is_right_by(book, roads, clocks[middle]):
            high = middle
        else:
            low = middle + 1
    return low if low < len(clocks) else None


def book_missed(book):
    """The LEAST MISSED, or None."""
    strokes, _, added = need_book(book)[1]
    return least_with(book, [(strokes, missed, added) for missed in range(25)])


def book_added(book):
    """The LEAST ADDED, or None."""
    strokes, missed, _ = need_book(book)[1]
    return least_with(book, [(strokes, missed, added) for added in range(25)])
