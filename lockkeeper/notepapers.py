"""NOTES and BUNCHES of a BOOK, and the check of the PAPER on the NOTES."""

from lockkeeper.bookpapers import are_tables, does_agree_with, roads_by
from lockkeeper.books import is_entry_number, need_book
from lockkeeper.errors import BadPaper, TooMany
from lockkeeper.kinds import is_ascending, is_tuple_of, is_worded

# Where in an ENTRY each thing stands that can be a NOTE.
PLACES = {"boats": 4, "heard": 1, "level": 2, "marks": 3, "passed": 5}


def all_notes(book):
    """The BUNCH of all NOTES."""
    notes = []
    for number, entry in enumerate(book[2]):
        for thing in sorted(PLACES):
            if entry[PLACES[thing]] is not None:
                notes.append((number, thing))
    return tuple(notes)


def is_note(book, thing):
    """Whether any value is a NOTE of the BOOK."""
    if not is_tuple_of(thing, 2) or not is_entry_number(book, thing[0]):
        return False
    if not isinstance(thing[1], str) or thing[1] not in PLACES:
        return False
    return book[2][thing[0]][PLACES[thing[1]]] is not None


def is_bunch(book, thing):
    """Whether any value is a BUNCH of the BOOK."""
    return isinstance(thing, tuple) and all([is_note(book, note) for note in thing]) and is_ascending(thing)


def book_without(book, bunch):
    """The BOOK without a BUNCH."""
    lock, clock, entries = book
    rows = [list(entry) for entry in entries]
    for number, thing in bunch:
        rows[number][PLACES[thing]] = None
    return lock, clock, tuple([tuple(row) for row in rows])


def all_but(notes, bunch):
    """The BUNCH of those NOTES that are not in a BUNCH."""
    return tuple([note for note in notes if note not in bunch])


def book_alone(book, bunch):
    """The BOOK of a BUNCH alone."""
    return book_without(book, all_but(all_notes(book), bunch))


def all_bunches(notes):
    """The list of all BUNCHES of NOTES, each behind those that have some of its NOTES, but not all."""
    bunches = [()]
    for note in notes:
        bunches = bunches + [bunch + (note,) for bunch in bunches]
    return bunches


def need_five(book):
    """Refuses a BOOK with more than 5 NOTES."""
    if len(all_notes(book)) > 5:
        raise TooMany(5)


def has_all(bunch, other):
    """Whether a BUNCH has all NOTES of another one."""
    return all([note in bunch for note in other])


def has_none(bunch, other):
    """Whether a BUNCH has none of the NOTES of another one."""
    return not any([note in bunch for note in other])


def are_bunches(book, thing):
    """Whether any value is a tuple of pairs with BUNCHES first that ascend, none with all NOTES of another one."""
    if not isinstance(thing, tuple) or not all([is_tuple_of(pair, 2) for pair in thing]):
        return False
    bunches = [pair[0] for pair in thing]
    if not all([is_bunch(book, bunch) for bunch in bunches]) or not is_ascending(bunches):
        return False
    return not any([has_all(bunch, other) for bunch in bunches for other in bunches if bunch != other])


def is_mended(book, pair):
    """Whether the second one of a pair is a HISTORY that agrees with the BOOK without the BUNCH."""
    return does_agree_with(book_without(book, pair[0]), pair[1])


def is_clashing(book, pair, known):
    """Whether the second one of a pair is TABLES by which the BOOK of the BUNCH alone is wrong."""
    alone = book_alone(book, pair[0])
    return are_tables(alone, roads_by(alone, known), pair[1])


def is_settled(bunch, mended, clashing):
    """Whether some BUNCH of the one has no other NOTES than this one, or some one of the others none of its NOTES."""
    return any([has_all(bunch, other) for other in mended]) or any([has_none(bunch, other) for other in clashing])


def holds_notes(book, paper):
    """Whether a PAPER ("notes", MENDS, CLASHES) holds."""
    _, mended, clashing = paper
    if not are_bunches(book, mended) or not are_bunches(book, clashing):
        return False
    if not all([is_mended(book, pair) for pair in mended]):
        return False
    known = {}
    if not all([is_clashing(book, pair, known) for pair in clashing]):
        return False
    menders = [pair[0] for pair in mended]
    clashers = [pair[0] for pair in clashing]
    return all([is_settled(bunch, menders, clashers) for bunch in all_bunches(all_notes(book))])


def check_notes(book, paper):
    """The word of a PAPER on the NOTES that holds."""
    need_book(book)
    need_five(book)
    if not is_worded(paper, "notes", 3):
        raise BadPaper("form")
    if not holds_notes(book, paper):
        raise BadPaper("notes")
    return "notes"
