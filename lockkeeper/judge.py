"""One checker for CASES of all papers, from texts, too."""

from lockkeeper.bookpapers import check_book
from lockkeeper.dutypapers import check_bounds, check_duty
from lockkeeper.errors import BadCase, BadPaper, BadText, LockError, Nothing, TooMany, Wrong
from lockkeeper.kinds import is_tuple_of
from lockkeeper.needpapers import check_hours
from lockkeeper.notepapers import check_notes
from lockkeeper.planpapers import check_plan
from lockkeeper.roundpapers import check_ever, check_pace
from lockkeeper.texts import need_text, read_thing, thing_text
from lockkeeper.tollpapers import check_keens, check_toll_totals, check_tolls
from lockkeeper.treepapers import check_looks


def judge_book(args, paper):
    """What check_book tells."""
    return check_book(args[0], paper)


def judge_bounds(args, paper):
    """What check_bounds tells."""
    return check_bounds(args[0], args[1], paper)


def judge_duty(args, paper):
    """What check_duty tells."""
    return check_duty(args[0], args[1], paper)


def judge_keens(args, paper):
    """What check_keens tells."""
    return check_keens(args[0], paper)


def judge_looks(args, paper):
    """What check_looks tells."""
    return check_looks(args[0], args[1], args[2], paper)


def judge_need(args, paper):
    """What check_hours tells."""
    return check_hours(args[0], args[1], args[2], args[3], paper)


def judge_notes(args, paper):
    """What check_notes tells."""
    return check_notes(args[0], paper)


def judge_pace(args, paper):
    """What check_pace tells."""
    return check_pace(args[0], args[1], paper)


def judge_plan(args, paper):
    """What check_plan tells."""
    return check_plan(args[0], paper)


def judge_rounds(args, paper):
    """What check_ever tells."""
    return check_ever(args[0], args[1], paper)


def judge_tolls(args, paper):
    """What check_tolls tells."""
    return check_tolls(args[0], paper)


def judge_totals(args, paper):
    """What check_toll_totals tells."""
    return check_toll_totals(args[0], args[1], args[2], paper)


CHECKS = {
    "book": judge_book, "bounds": judge_bounds, "duty": judge_duty, "keens": judge_keens, "looks": judge_looks,
    "need": judge_need, "notes": judge_notes, "pace": judge_pace, "plan": judge_plan, "rounds": judge_rounds,
    "tolls": judge_tolls, "totals": judge_totals,
}
# How many things ARGS have.
MANY = {
    "book": 1, "bounds": 2, "duty": 2, "keens": 1, "looks": 3, "need": 4, "notes": 1, "pace": 2, "plan": 1,
    "rounds": 2, "tolls": 1, "totals": 3,
}


def names():
    """The ascending tuple of all NAMES."""
    return tuple(sorted(list(MANY)))


def is_case(thing):
    """Whether any value is a CASE."""
    if not is_tuple_of(thing, 3) or not isinstance(thing[0], str) or thing[0] not in MANY:
        return False
    return is_tuple_of(thing[1], MANY[thing[0]])


def need_case(thing):
    """The thing itself, if it is a CASE."""
    if not is_case(thing):
        raise BadCase(thing)
    return thing


def need_binder(thing):
    """The thing itself, if it is a BINDER."""
    if not isinstance(thing, tuple) or len(thing) > 12:
        raise BadCase(thing)
    for case in thing:
        need_case(case)
    return thing


def judged_case(case):
    """How a CASE is judged."""
    name, args, paper = case
    check = CHECKS[name]
    try:
        told = check(args, paper)
    except BadPaper as bad:
        return "wrong", bad.part
    except (LockError, Wrong, Nothing, TooMany):
        return ("refused",)
    return "kept", told


def judged(binder):
    """The tuple of how each CASE is judged."""
    return tuple([judged_case(case) for case in need_binder(binder)])


def case_text(case):
    """The text of the CASE."""
    return thing_text(need_case(case))


def binder_text(binder):
    """The text of the BINDER."""
    return "\n".join([thing_text(case) for case in need_binder(binder)])


def case_at(line, row):
    """The CASE that a row writes, the one with this number of a text."""
    try:
        case = read_thing(row)
    except BadText:
        raise BadText(line, 0) from None
    if not is_case(case):
        raise BadText(line, 0)
    return case


def read_case(text):
    """The CASE that a text writes."""
    need_text(text)
    return case_at(1, text)


def read_binder(text):
    """The BINDER that a text writes."""
    need_text(text)
    if text == "":
        return ()
    cases = []
    for at, row in enumerate(text.split("\n")):
        if at == 12:
            raise BadText(13, 0)
        cases.append(case_at(at + 1, row))
    return tuple(cases)
