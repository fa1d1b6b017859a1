"""LOOKS, MENUS, CLAIMS, and what they are by a HISTORY."""

from lockkeeper.bookpapers import is_agreed, need_given_history, states_by
from lockkeeper.books import is_entry_number, need_book
from lockkeeper.errors import BadHistory, BadLook
from lockkeeper.kinds import is_within, is_worded
from lockkeeper.locks import GREATEST
from lockkeeper.tollpapers import is_toll_lot


def is_between(book, thing):
    """Whether any value is a LOOK "between"."""
    if not is_worded(thing, "between", 4) or not is_entry_number(book, thing[2]):
        return False
    return is_within(thing[1], 0, thing[2] - 1) and is_within(thing[3], 0, GREATEST)


def is_look_of(book, thing):
    """As is_look, of what is known to be a BOOK."""
    if is_worded(thing, "level", 3) or is_worded(thing, "boats", 3):
        return is_entry_number(book, thing[1]) and is_within(thing[2], 0, GREATEST)
    if is_worded(thing, "hour", 3):
        return is_entry_number(book, thing[1]) and is_toll_lot(book[1], thing[2])
    return is_between(book, thing)


def is_look(book, thing):
    """Whether any value is a LOOK of the BOOK."""
    return is_look_of(need_book(book), thing)


def many_between(looks):
    """How many of LOOKS are "between"."""
    return len([look for look in looks if look[0] == "between"])


def need_menu(book, menu):
    """Refuses what is no MENU of what is known to be a BOOK."""
    if not isinstance(menu, tuple) or len(menu) > 3:
        raise BadLook(menu)
    for look in menu:
        if not is_look_of(book, look):
            raise BadLook(look)
    if many_between(menu) > 2:
        raise BadLook(menu)


def need_claim(book, menu, claim):
    """Refuses what is no CLAIM beside a MENU of what is known to be a BOOK."""
    if not is_look_of(book, claim) or many_between(menu + (claim,)) > 2:
        raise BadLook(claim)


def need_agreeing(book, history):
    """Refuses what is no BOOK, or no HISTORY that agrees with it."""
    need_given_history(need_book(book), history)
    if not is_agreed(book, history):
        raise BadHistory("agrees")


def look_by(book, history, look):
    """What a LOOK is by a HISTORY."""
    if look[0] == "between":
        return sum([len(course) for course in history[2][look[1]:look[2]]]) >= look[3]
    residue, stand = states_by(book, history)[look[1]]
    if look[0] == "hour":
        return residue in look[2]
    return stand[0 if look[0] == "level" else 1] >= look[2]


def look_of(book, history, claim):
    """What the CLAIM is by the HISTORY."""
    need_agreeing(book, history)
    need_claim(book, (), claim)
    return look_by(book, history, claim)


def answers_of(book, history, menu):
    """The ANSWERS of the HISTORY."""
    need_agreeing(book, history)
    need_menu(book, menu)
    return tuple([look_by(book, history, look) for look in menu])
