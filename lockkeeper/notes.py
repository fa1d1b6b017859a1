"""Which NOTES of a BOOK are wrong: MENDS, CLASHES, CORRECTIONS, and the PAPER on the NOTES."""

from lockkeeper.bookpapers import no_sets, roads_by, roads_of, sets_joined
from lockkeeper.books import need_book, need_entry
from lockkeeper.errors import BadBunch, BadNote
from lockkeeper.histories import history_within, wrong_tables
from lockkeeper.maybes import boats_in, heard_in, levels_in, residues_in
from lockkeeper.notepapers import (
    all_bunches, all_but, all_notes, book_alone, book_without, is_bunch, is_note, need_five)
from lockkeeper.tables import first_wrong_by, tables_possible


def notes_of(book):
    """The BUNCH of all NOTES of the BOOK."""
    return all_notes(need_book(book))


def need_bunch(book, bunch):
    """Refuses what is no BOOK, or no BUNCH of it."""
    need_book(book)
    if not is_bunch(book, bunch):
        raise BadBunch(bunch)


def left_out(book, bunch):
    """The BOOK without the BUNCH."""
    need_bunch(book, bunch)
    return book_without(book, bunch)


def kept_alone(book, bunch):
    """The BOOK of the BUNCH alone."""
    need_bunch(book, bunch)
    return book_alone(book, bunch)


def rights_of(book, known):
    """A dict of all BUNCHES: whether the BOOK without them is right."""
    rights = {}
    for bunch in all_bunches(all_notes(book)):
        without = book_without(book, bunch)
        # If it is right with more of its NOTES, it is without this BUNCH.
        is_known = any([rights[all_but(bunch, (note,))] for note in bunch])
        rights[bunch] = is_known or first_wrong_by(without, roads_by(without, known)) is None
    return rights


def mends_by(rights):
    """The ascending tuple of all MENDS, by what rights_of tells."""
    least = []
    for bunch in rights:
        # One NOTE less is enough to ask for: with still more NOTES the BOOK is not right then, either.
        if rights[bunch] and not any([rights[all_but(bunch, (note,))] for note in bunch]):
            least.append(bunch)
    return tuple(sorted(least))


def clashes_by(rights, notes):
    """The ascending tuple of all CLASHES, by what rights_of tells."""
    alone = {bunch: rights[all_but(notes, bunch)] for bunch in rights}
    least = []
    for bunch in alone:
        if not alone[bunch] and all([alone[all_but(bunch, (note,))] for note in bunch]):
            least.append(bunch)
    return tuple(sorted(least))


def mends_of(book, known):
    """As mends, of a BOOK with at most 5 NOTES."""
    return mends_by(rights_of(book, known))


def mends(book):
    """The ascending tuple of all MENDS."""
    need_five(need_book(book))
    return mends_of(book, {})


def clashes(book):
    """The ascending tuple of all CLASHES."""
    need_five(need_book(book))
    return clashes_by(rights_of(book, {}), all_notes(book))


def fewest(book):
    """How many NOTES the MEND with the fewest has."""
    return min([len(bunch) for bunch in mends(book)])


def doubt_of(book, note):
    """Whether the NOTE is surely wrong ("sure"), "suspect" or "clear"."""
    need_book(book)
    if not is_note(book, note):
        raise BadNote(note)
    need_five(book)
    wrong = [note in bunch for bunch in mends_of(book, {})]
    if all(wrong):
        return "sure"
    return "suspect" if any(wrong) else "clear"


def believable(book, number):
    """The SETS of all STATES that are believable at the ENTRY."""
    need_entry(book, number)
    need_five(book)
    known = {}
    sets = no_sets(book)
    for bunch in mends_of(book, known):
        without = book_without(book, bunch)
        sets = sets_joined(sets, tables_possible(without, roads_by(without, known))[number])
    return sets


def corrections(book, note):
    """All CORRECTIONS of a NOTE "level", "boats" or "heard"."""
    need_book(book)
    if not is_note(book, note) or note[1] in ("marks", "passed"):
        raise BadNote(note)
    number, thing = note
    without = book_without(book, (note,))
    sets = tables_possible(without, roads_of(without))[number]
    if thing == "level":
        return levels_in(sets)
    if thing == "boats":
        return boats_in(sets)
    return heard_in(book[1], residues_in(sets))


def mend_papers(book, bunches, known):
    """The pairs of MENDS, each with a HISTORY that agrees with the BOOK without it."""
    pairs = []
    for bunch in bunches:
        without = book_without(book, bunch)
        pairs.append((bunch, history_within(without, roads_by(without, known))))
    return tuple(pairs)


def clash_papers(book, bunches, known):
    """The pairs of CLASHES, each with TABLES by which the BOOK of it alone is wrong."""
    pairs = []
    for bunch in bunches:
        alone = book_alone(book, bunch)
        pairs.append((bunch, wrong_tables(alone, roads_by(alone, known))))
    return tuple(pairs)


def notes_paper(book):
    """A PAPER on the NOTES."""
    need_five(need_book(book))
    known = {}
    rights = rights_of(book, known)
    clashing = clashes_by(rights, all_notes(book))
    return "notes", mend_papers(book, mends_by(rights), known), clash_papers(book, clashing, known)
