"""The DESK: it answers lines."""

from lockkeeper.bookpapers import roads_of
from lockkeeper.books import need_book, need_number
from lockkeeper.errors import BadText, LockError, Nothing, TooMany, Wrong
from lockkeeper.keepers import THINGS, Keeper
from lockkeeper.maybes import boats_in, levels_in, residues_in
from lockkeeper.stretches import many_stands
from lockkeeper.tables import first_wrong_by, tables_possible
from lockkeeper.texts import is_written_number

DEED_WORDS = ("water", "upper", "lower", "write", "back")
# Where each thing stands in an ENTRY.
PLACES = {"heard": 1, "level": 2, "marks": 3, "boats": 4, "passed": 5}


def need_line(is_well):
    """Refuses what is no line: the DESK answers it with "no", as all that this package refuses."""
    if not is_well:
        raise BadText(1, 0)


def numbers_in(words, many):
    """The tuple of the numbers that words are, if they are so many."""
    need_line(len(words) == many and all([is_written_number(word) for word in words]))
    return tuple([int(word) for word in words])


def joined_words(things):
    """An answer of numbers, or of pairs of numbers."""
    words = [f"{thing[0]}:{thing[1]}" if isinstance(thing, tuple) else str(thing) for thing in things]
    return " ".join(words) if words else "none"


def keeper_of(words):
    """The KEEPER of what stands behind "lock"."""
    need_line(words[4:5] == ["clock"])
    lock = numbers_in(words[:4], 4)
    rest = words[5:]
    level, boats, residue = 0, 0, 0
    if rest[-4:-3] == ["at"]:
        level, boats, residue = numbers_in(rest[-3:], 3)
        rest = rest[:-4]
    missed, added = numbers_in(rest[:2], 2)
    strokes = numbers_in(rest[2:], len(rest) - 2)
    return Keeper(lock, (strokes, missed, added), (level, boats), residue)


def write_by(keeper, words):
    """Does the writing of what stands behind "write"."""
    many = 0
    while many < len(words) and words[many] in THINGS:
        many += 1
    things = tuple(words[:many])
    rest = words[many:]
    gap, heard, signs = None, None, ()
    if rest[:1] == ["gap"]:
        gap = numbers_in(rest[1:3], 2)
        rest = rest[3:]
    if rest[:1] == ["strokes"]:
        heard = numbers_in(rest[1:2], 1)[0]
        rest = rest[2:]
    if rest[:1] == ["signs"] and len(rest) > 1:
        signs = tuple(list(rest[1]))
        rest = rest[2:]
    need_line(not rest)
    keeper.write(things, gap, heard, signs)


def do_by(keeper, word, words):
    """Does what a line asks the KEEPER to do."""
    if word == "write":
        write_by(keeper, words)
    elif word == "back":
        keeper.undo(numbers_in(words, 1)[0])
    elif word == "water":
        keeper.do((word,) + numbers_in(words, 1))
    else:
        keeper.do((word,) + numbers_in(words, 2))


def changed(book, word, words):
    """The asked BOOK with what a line "forget" or "wide" changes in it."""
    number = numbers_in(words[:1], 1)[0]
    need_number(book, number)
    lock, clock, entries = book
    entry = list(entries[number])
    if word == "wide":
        entry[0] = numbers_in(words[1:], 2)
    else:
        need_line(len(words) == 2 and words[1] in PLACES)
        entry[PLACES[words[1]]] = None
    return need_book((lock, clock, entries[:number] + (tuple(entry),) + entries[number + 1:]))


def told_of_keeper(keeper, word):
    """What a line of one word asks of the KEEPER."""
    if word == "stand":
        return joined_words(keeper.stand)
    if word == "hour":
        return str(keeper.residue)
    if word == "since":
        many, marks, passed = keeper.since()
        return joined_words((many,) + marks + passed)
    need_line(word == "written")
    return str(len(keeper.entries()))


def told_right(book):
    """Whether the asked BOOK is right."""
    number = first_wrong_by(book, roads_of(book))
    return "yes" if number is None else f"wrong {number}"


def told_possible(book, word, words):
    """What a line asks of the STATES that are possible at an ENTRY of the asked BOOK."""
    need_line(word in ("level", "boats", "hour", "states"))
    number = numbers_in(words, 1)[0]
    need_number(book, number)
    sets = tables_possible(book, roads_of(book))[number]
    if word == "level":
        return joined_words(levels_in(sets))
    if word == "boats":
        return joined_words(boats_in(sets))
    if word == "hour":
        return joined_words(residues_in(sets))
    return str(sum([many_stands(book[0], lot) for lot in sets]))


class Desk:
    """A DESK: it has a KEEPER, or none at first, and answers lines."""

    def __init__(self):
        self._keeper = None
        # None as long as the asked BOOK is the one of the KEEPER.
        self._asked = None

    @property
    def keeper(self):
        """The KEEPER, or None."""
        return self._keeper

    def asked(self):
        """The asked BOOK."""
        return self._keeper.book() if self._asked is None else self._asked

    def answer(self, word, words):
        """The answer to a line of a word and of those behind it, if it is none that is refused."""
        if word == "lock":
            self._keeper = keeper_of(words)
            self._asked = None
            return "done"
        need_line(self._keeper is not None)
        if word in DEED_WORDS:
            do_by(self._keeper, word, words)
            if word in ("write", "back"):
                self._asked = None
            return "done"
        if word in ("forget", "wide"):
            self._asked = changed(self.asked(), word, words)
            return "done"
        if words:
            return told_possible(self.asked(), word, words)
        return told_right(self.asked()) if word == "right" else told_of_keeper(self._keeper, word)

    def say(self, line):
        """The answer to a line."""
        if not isinstance(line, str):
            return "no"
        words = line.split(" ")
        try:
            need_line("" not in words)
            return self.answer(words[0], words[1:])
        except (LockError, Wrong, Nothing, TooMany):
            return "no"
