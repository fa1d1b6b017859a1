"""BOOKS, rows and THINGS as texts."""

from lockkeeper.books import first_beyond, is_letter, need_book, wrong_part
from lockkeeper.clocks import need_clock
from lockkeeper.errors import BadClock, BadEntry, BadLock, BadNumber, BadText
from lockkeeper.kinds import is_integer, is_tuple_of, is_within
from lockkeeper.locks import need_lock

# No integer that is written has more than 31 figures.
BEYOND = 10 ** 31
FIGURES = "0123456789"
PLAIN_WORDS = {".": None, "+": True, "~": False}


def number_word(number):
    """The word of an integer, or of None."""
    return "-" if number is None else str(number)


def joined_word(numbers, sign):
    """The word of a tuple of integers, with a sign between, or of None."""
    return "-" if numbers is None else sign.join([str(number) for number in numbers])


def row_by(entry):
    """As row_text, of what is known to be a septuple that a row can write."""
    gap, heard, level, marks, boats, passed, signs = entry
    words = (joined_word(gap, ":"), number_word(heard), number_word(level), joined_word(marks, ":"),
             number_word(boats), joined_word(passed, "."), "".join(signs) if signs else "-")
    return " ".join(words)


def is_number(thing):
    """Whether any value is None, or an integer that a row can write."""
    return thing is None or is_within(thing, 0, BEYOND - 1)


def are_so_many(thing, many):
    """Whether any value is None, or a tuple of so many integers that a row can write."""
    return thing is None or (is_tuple_of(thing, many) and all([is_within(part, 0, BEYOND - 1) for part in thing]))


def is_row(thing):
    """Whether any value is a septuple that a row can write."""
    if not is_tuple_of(thing, 7):
        return False
    gap, heard, level, marks, boats, passed, signs = thing
    if not are_so_many(gap, 2) or not are_so_many(marks, 2) or not are_so_many(passed, 4):
        return False
    if not is_number(heard) or not is_number(level) or not is_number(boats):
        return False
    return isinstance(signs, tuple) and all([is_letter(sign) for sign in signs])


def row_text(entry):
    """The row of a septuple, whether it is an ENTRY or not."""
    if not is_row(entry):
        raise BadEntry(entry)
    return row_by(entry)


def book_text(book):
    """The text of the BOOK."""
    lock, (strokes, missed, added), entries = need_book(book)
    top, up, down, room = lock
    struck = joined_word(strokes, ",")
    firsts = [f"lock {top} {up} {down} {room}", f"clock {struck} {missed} {added}"]
    return "\n".join(firsts + [row_by(entry) for entry in entries])


def is_written_number(word):
    """Whether a word writes an integer from 0 on."""
    if not 1 <= len(word) <= 31 or not all([sign in FIGURES for sign in word]):
        return False
    return word[0] != "0" or word == "0"


def are_written_numbers(words):
    """Whether each word writes an integer from 0 on."""
    return all([is_written_number(word) for word in words])


def is_written_row_word(place, word):
    """Whether a word of a row of an ENTRY is written as told for its place, from 0 on."""
    if word == "-":
        return True
    if place in (0, 3):
        return len(word.split(":")) == 2 and are_written_numbers(word.split(":"))
    if place == 5:
        return len(word.split(".")) == 4 and are_written_numbers(word.split("."))
    if place == 6:
        return word != "" and all([is_letter(sign) for sign in word])
    return is_written_number(word)


def is_written_lock_word(place, word):
    """Whether a word of the row of the LOCK is written as told for its place."""
    return word == "lock" if place == 0 else is_written_number(word)


def is_written_clock_word(place, word):
    """Whether a word of the row of the CLOCK is written as told for its place."""
    if place == 0:
        return word == "clock"
    return are_written_numbers(word.split(",")) if place == 1 else is_written_number(word)


def words_of(row):
    """The list of the words of a row."""
    return row.split(" ") if row else []


def need_words(line, row, many, is_written):
    """The list of the words of a row, if they are so many and each is written as told."""
    words = words_of(row)
    if len(words) != many:
        raise BadText(line, 0)
    for place, word in enumerate(words):
        if not is_written(place, word):
            raise BadText(line, place + 1)
    return words


def numbers_of(word, sign):
    """The tuple of the integers of a word that is known to write them, or None."""
    return None if word == "-" else tuple([int(part) for part in word.split(sign)])


def number_of(word):
    """The integer of a word that is known to write it, or None."""
    return None if word == "-" else int(word)


def septuple_at(line, row):
    """The septuple that a row writes, the one with this number of a text."""
    words = need_words(line, row, 7, is_written_row_word)
    signs = () if words[6] == "-" else tuple(list(words[6]))
    return (numbers_of(words[0], ":"), number_of(words[1]), number_of(words[2]), numbers_of(words[3], ":"),
            number_of(words[4]), numbers_of(words[5], "."), signs)


def need_text(text):
    """Refuses what is no string."""
    if not isinstance(text, str):
        raise BadText(0, 0)


def read_row(text):
    """The septuple that a row writes, whether it is an ENTRY or not."""
    need_text(text)
    return septuple_at(1, text)


def need_entries(lock, entries):
    """Refuses what are no ENTRIES of a BOOK, by the place of the first that is wrong."""
    for number, entry in enumerate(entries):
        if wrong_part(lock, number, entry) is not None:
            raise BadText(number + 3, 0)
    if len(entries) > 6:
        raise BadText(9, 0)
    beyond = first_beyond(entries)
    if beyond is not None:
        raise BadText(beyond + 3, 0)


def need_written_book(lock, clock, entries):
    """The BOOK of what a text writes, if it is one."""
    try:
        need_lock(lock)
    except BadLock:
        raise BadText(1, 0) from None
    try:
        need_clock(clock)
    except BadClock:
        raise BadText(2, 0) from None
    need_entries(lock, entries)
    return lock, clock, entries


def read_book(text):
    """The BOOK that a text writes."""
    need_text(text)
    rows = text.split("\n")
    lock = tuple([int(word) for word in need_words(1, rows[0], 5, is_written_lock_word)[1:]])
    if len(rows) < 2:
        raise BadText(2, 0)
    words = need_words(2, rows[1], 4, is_written_clock_word)
    clock = (numbers_of(words[1], ","), int(words[2]), int(words[3]))
    if len(rows) < 3:
        raise BadText(3, 0)
    entries = tuple([septuple_at(line + 3, row) for line, row in enumerate(rows[2:])])
    return need_written_book(lock, clock, entries)


def is_letters(word):
    """Whether a string is one of a THING."""
    return 1 <= len(word) <= 12 and all([is_letter(sign) for sign in word])


def is_plain(thing):
    """Whether any value is a THING that is no tuple."""
    if isinstance(thing, str):
        return is_letters(thing)
    if is_integer(thing):
        return -BEYOND < thing < BEYOND
    return thing is None or isinstance(thing, bool)


def is_thing(value):
    """Whether any value is a THING."""
    layer = [value]
    many = 1
    for _ in range(21):
        tuples = [thing for thing in layer if isinstance(thing, tuple)]
        if not all([isinstance(thing, tuple) or is_plain(thing) for thing in layer]):
            return False
        many += sum([len(thing) for thing in tuples])
        if many > 6000:
            return False
        layer = [part for thing in tuples for part in thing]
    return layer == []


def text_by(thing):
    """The text of what is known to be a THING."""
    if isinstance(thing, tuple):
        return "(" + " ".join([text_by(part) for part in thing]) + ")"
    if thing is None or isinstance(thing, bool):
        return "." if thing is None else "+" if thing else "~"
    return str(thing)


def thing_text(thing):
    """The text of the THING."""
    if not is_thing(thing):
        raise BadNumber(thing)
    return text_by(thing)


def plain_by(word):
    """The THING that is no tuple that a word writes; of what writes none something that is written otherwise."""
    if word in PLAIN_WORDS:
        return PLAIN_WORDS[word]
    figures = word[1:] if word.startswith("-") else word
    return int(word) if is_written_number(figures) else word


def put_word(stack, word):
    """Reads a word into a stack of lists, one for each tuple that is still open; tells whether it can be read so."""
    inner = word.lstrip("(")
    plain = inner.rstrip(")")
    for _ in range(len(word) - len(inner)):
        stack.append([])
    if plain:
        stack[-1].append(plain_by(plain))
    for _ in range(len(inner) - len(plain)):
        if len(stack) == 1:
            return False
        closed = stack.pop()
        stack[-1].append(tuple(closed))
    return True


def thing_by(text):
    """The list of the THING that a text writes; of what writes none an empty one."""
    stack = [[]]
    for word in text.split(" "):
        if not put_word(stack, word):
            return []
    # Each THING has just one text: so a text that is not all of the first THING's text writes none.
    return [thing for thing in stack[0][:1] if is_thing(thing) and text_by(thing) == text]


def read_thing(text):
    """The THING that a text writes."""
    need_text(text)
    things = thing_by(text)
    if not things:
        raise BadText(1, 0)
    return things[0]
