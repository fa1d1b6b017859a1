"""Texts read by patterns, straight by [80] and [81]."""

import re

BIG = 10 ** 30
N = "(?:0|[1-9][0-9]{0,30})"
LOCK = ["lock", N, N, N, N]
CLOCK = ["clock", f"{N}(?:,{N})*", N, N]
ENTRY = [f"-|{N}:{N}", f"-|{N}", f"-|{N}", f"-|{N}:{N}", f"-|{N}", rf"-|{N}\.{N}\.{N}\.{N}", "-|[a-z]+"]


def wrong_word(row, patterns):
    """The number, from 1, of the first word that is wrong, 0 of another number of words, None if none is."""
    words = [] if row == "" else row.split(" ")
    if len(words) != len(patterns):
        return 0
    for number, (word, pattern) in enumerate(zip(words, patterns)):
        if not re.fullmatch(pattern, word):
            return number + 1
    return None


def numbers(word):
    return None if word == "-" else tuple(int(part) for part in re.split("[:.,]", word))


def number(word):
    return None if word == "-" else int(word)


def septuple(row):
    gap, heard, level, marks, boats, passed, signs = row.split(" ")
    return (numbers(gap), number(heard), number(level), numbers(marks), number(boats), numbers(passed), () if signs == "-" else tuple(signs))


def is_pair(pair, most):
    return pair is None or pair[0] <= pair[1] <= most


def is_entry(lock, at, row):
    gap, heard, level, marks, boats, passed, signs = row
    if (gap is None) != (at == 0) or (at == 0 and (marks, passed) != (None, None)):
        return False
    if not is_pair(gap, 12) or not is_pair(marks, lock[0]) or (heard or 0) > 99 or (level or 0) > lock[0] or (boats or 0) > lock[3]:
        return False
    return (passed is None or max(passed) <= 2) and len(signs) <= 3 and list(signs) == sorted(set(signs))


def read_book(text):
    """The BOOK, or the place of what is wrong as a pair of numbers."""
    rows = text.split("\n")
    for at, row in enumerate(rows):
        wrong = wrong_word(row, (LOCK, CLOCK, ENTRY)[min(at, 2)])
        if wrong is not None:
            return at + 1, wrong
    if len(rows) < 3:
        return len(rows) + 1, 0
    lock = tuple(map(int, rows[0].split(" ")[1:]))
    words = rows[1].split(" ")
    clock = numbers(words[1]), int(words[2]), int(words[3])
    entries = tuple(septuple(row) for row in rows[2:])
    if not (lock[0] <= BIG and 1 <= lock[1] <= BIG and 1 <= lock[2] <= BIG and lock[3] <= 2):
        return 1, 0
    if len(clock[0]) > 12 or max(*clock[0], clock[1], clock[2]) > 24:
        return 2, 0
    for at, row in enumerate(entries):
        if not is_entry(lock, at, row):
            return at + 3, 0
    if len(entries) > 6:
        return 9, 0
    for at in range(1, len(entries)):
        if sum(row[0][1] for row in entries[1:at + 1]) > 24:
            return at + 3, 0
    return lock, clock, entries


ATOM = re.compile(r"\.|\+|~|0|-?[1-9][0-9]{0,30}|[a-z]{1,12}")


def read_part(text, at, deep):
    """The THING that stands at a place of a text, and the place behind it; None of none."""
    if deep > 20:
        return None
    if text[at:at + 1] != "(":
        found = ATOM.match(text, at)
        if not found:
            return None
        word = found.group()
        return ({".": None, "+": True, "~": False}[word] if word in ".+~" else word if word[0].isalpha() else int(word)), found.end()
    at, parts = at + 1, []
    if text[at:at + 1] == ")":
        return (), at + 1
    while True:
        told = read_part(text, at, deep + 1)
        if told is None:
            return None
        parts.append(told[0])
        at = told[1]
        if text[at:at + 1] == ")":
            return tuple(parts), at + 1
        if text[at:at + 1] != " ":
            return None
        at += 1


def many(thing):
    return 1 + sum(map(many, thing)) if type(thing) is tuple else 1


def read_thing(text):
    """A list of the THING that a text writes, of none an empty one."""
    told = read_part(text, 0, 0)
    if told is None or told[1] != len(text) or many(told[0]) > 6000:
        return []
    return [told[0]]


def is_thing(value, deep=0):
    """Whether any value is a THING, how many there are left out."""
    if deep > 20:
        return False
    if type(value) is tuple:
        return all(is_thing(part, deep + 1) for part in value)
    if type(value) is int:
        return abs(value) < 10 ** 31
    if type(value) is str:
        return re.fullmatch("[a-z]{1,12}", value) is not None
    return value is None or type(value) is bool


def thing_text(value):
    if type(value) is tuple:
        return f"({' '.join(map(thing_text, value))})"
    if type(value) in (int, str):
        return str(value)
    return {None: ".", True: "+", False: "~"}[value]
