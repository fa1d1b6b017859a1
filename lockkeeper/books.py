"""BOOKS: their TOLLS, WANTS and PARTS, upside down and backwards."""

from lockkeeper.clocks import is_gap, is_heard, need_clock
from lockkeeper.errors import BadBook, BadClock, BadLock, BadNumber
from lockkeeper.kinds import is_ascending, is_tuple_of, is_within
from lockkeeper.locks import is_level, need_lock, turned
from lockkeeper.wants import is_marks, is_passed, marks_overturned, passed_backwards, passed_overturned


def is_letter(thing):
    """Whether any value is a letter from a to z."""
    return isinstance(thing, str) and len(thing) == 1 and "a" <= thing <= "z"


def are_signs(thing):
    """Whether any value is SIGNS."""
    if not isinstance(thing, tuple) or len(thing) > 3:
        return False
    return all([is_letter(sign) for sign in thing]) and is_ascending(thing)


def wrong_part(lock, number, thing):
    """The first part for which any value is no ENTRY with this number, or None."""
    if not is_tuple_of(thing, 7):
        return "form"
    gap, heard, level, marks, boats, passed, signs = thing
    is_first = number == 0
    tests = (
        ("gap", gap is None if is_first else is_gap(gap)),
        ("heard", is_heard(heard)),
        ("level", level is None or is_level(lock, level)),
        ("marks", marks is None or (not is_first and is_marks(lock, marks))),
        ("boats", boats is None or is_within(boats, 0, lock[3])),
        ("passed", passed is None or (not is_first and is_passed(passed))),
        ("signs", are_signs(signs)),
    )
    for part, is_well in tests:
        if not is_well:
            return part
    return None


def need_lock_and_clock(lock, clock):
    """Refuses what are no LOCK and no CLOCK of a BOOK."""
    try:
        need_lock(lock)
    except BadLock as no_lock:
        raise BadBook(("lock", no_lock.part)) from None
    try:
        need_clock(clock)
    except BadClock as no_clock:
        raise BadBook(("clock", no_clock.part)) from None


def first_beyond(entries):
    """The number of the first ENTRY with which the most HOURS of the GAPS are more than 24, or None."""
    total = 0
    for number in range(1, len(entries)):
        total += entries[number][0][1]
        if total > 24:
            return number
    return None


def need_book(thing):
    """The thing itself, if it is a BOOK."""
    if not is_tuple_of(thing, 3):
        raise BadBook("form")
    lock, clock, entries = thing
    need_lock_and_clock(lock, clock)
    if not isinstance(entries, tuple) or not entries:
        raise BadBook("entries")
    for number, entry in enumerate(entries[:6]):
        part = wrong_part(lock, number, entry)
        if part is not None:
            raise BadBook((number, part))
    if len(entries) > 6:
        raise BadBook((6, "more"))
    beyond = first_beyond(entries)
    if beyond is not None:
        raise BadBook(("hours", beyond))
    return thing


def is_entry_number(book, thing):
    """Whether any value is the number of an ENTRY of what is known to be a BOOK."""
    return is_within(thing, 0, len(book[2]) - 1)


def need_number(book, number):
    """Refuses what is no number of an ENTRY of what is known to be a BOOK."""
    if not is_entry_number(book, number):
        raise BadNumber(number)


def need_entry(book, number):
    """Refuses what is no BOOK, or no number of one of its ENTRIES."""
    need_number(need_book(book), number)


def tolls_of(book):
    """The TOLLS of the BOOK."""
    _, clock, entries = need_book(book)
    return clock, tuple([(entry[0], entry[1]) for entry in entries])


def wants_at(book, number):
    """As wants_of, of arguments that are known to be such."""
    entry = book[2][number]
    return entry[3], entry[5]


def wants_of(book, number):
    """The WANTS (MARKS, PASSED) of an ENTRY."""
    need_entry(book, number)
    return wants_at(book, number)


def entry_turned(entry, behind):
    """An ENTRY with what is noted at it, but GAP, MARKS and PASSED as of another one, or None of None."""
    _, heard, level, _, boats, _, signs = entry
    if behind is None:
        return None, heard, level, None, boats, None, signs
    return behind[0], heard, level, behind[3], boats, passed_backwards(behind[5]), signs


def part_between(book, number, last):
    """As part_of, of arguments that are known to be such."""
    lock, clock, entries = book
    first = entry_turned(entries[number], None)
    return lock, clock, (first,) + entries[number + 1:last + 1]


def part_of(book, number, last):
    """The PART of the BOOK from an ENTRY to one that is no earlier."""
    need_entry(book, number)
    if not is_within(last, number, len(book[2]) - 1):
        raise BadNumber(last)
    return part_between(book, number, last)


def entry_overturned(lock, entry):
    """An ENTRY upside down."""
    gap, heard, level, marks, boats, passed, signs = entry
    height = None if level is None else lock[0] - level
    return gap, heard, height, marks_overturned(lock, marks), boats, passed_overturned(passed), signs


def book_overturned(book):
    """The BOOK upside down."""
    lock, clock, entries = need_book(book)
    return turned(lock), clock, tuple([entry_overturned(lock, entry) for entry in entries])


def clock_backwards(clock):
    """The CLOCK of the BOOK backwards."""
    strokes, missed, added = clock
    return strokes[:1] + strokes[:0:-1], missed, added


def book_backwards(book):
    """The BOOK backwards."""
    lock, clock, entries = need_book(book)
    behinds = entries[1:] + (None,)
    back = [entry_turned(entry, behind) for entry, behind in zip(entries, behinds)]
    return turned(lock), clock_backwards(clock), tuple(back[::-1])
