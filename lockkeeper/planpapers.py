"""STEPS, TURNS and PLANS: what comes of them, and the check of the PAPERS on a TASK."""

from lockkeeper.errors import BadPaper, BadPlan
from lockkeeper.kinds import is_integer, is_tuple_of, is_within, is_worded
from lockkeeper.locks import GREATEST, hours_between
from lockkeeper.tasks import (
    BEGINNINGS, can_be_done, fewest_hours, is_all_done, least_changes, least_waits, need_task, waits_by)

# Here the HOURS and the WAITS of a TURN are told from its own beginning on; OUTS is how many boats go out in it.


def is_step(thing):
    """Whether any value is a STEP."""
    if is_worded(thing, "fill", 1) or is_worded(thing, "empty", 1):
        return True
    if not is_worded(thing, "upper", 3) and not is_worded(thing, "lower", 3):
        return False
    return is_within(thing[1], 0, 2) and is_within(thing[2], 0, 2)


def is_timed_turn(thing):
    """Whether any value is a pair (TIMES, TURN) of a PLAN."""
    if not is_tuple_of(thing, 2) or not is_within(thing[0], 1, GREATEST):
        return False
    steps = thing[1]
    return isinstance(steps, tuple) and 1 <= len(steps) <= 8 and all([is_step(step) for step in steps])


def need_plan(thing):
    """The thing itself, if it is a PLAN."""
    if not isinstance(thing, tuple) or len(thing) > 20:
        raise BadPlan(None)
    for number, pair in enumerate(thing):
        if not is_timed_turn(pair):
            raise BadPlan(number)
    return thing


def lift_to(task, place):
    """The HOURS in which the water goes straight to a gate."""
    lock = task[0]
    levels = {"upper": lock[0], "lower": 0}
    return hours_between(lock, levels[task[1]], levels[place])


def gate_step(task, step):
    """The TASK behind a STEP at a gate, None if it cannot be done."""
    lock, place, (above, below), (downward, upward) = task
    gate, out, come = step
    if place != gate and lock[0] > 0:
        return None
    if gate == "upper":
        waiting, inside, wanting = (above - come, below), (downward + come, upward - out), upward
    else:
        waiting, inside, wanting = (above, below - come), (downward - out, upward + come), downward
    if out > wanting or min(waiting) < 0 or sum(inside) > lock[3]:
        return None
    return lock, gate, waiting, inside


def turn_once(task, steps):
    """The quadruple (TASK behind it, HOURS, OUTS, WAITS) of a TURN that is done once, None if it cannot be done."""
    hours = 0
    outs = 0
    waits = 0
    for step in steps:
        if step[0] in ("fill", "empty"):
            place = "upper" if step[0] == "fill" else "lower"
            hours += lift_to(task, place)
            task = (task[0], place, task[2], task[3])
        else:
            task = gate_step(task, step)
            if task is None:
                return None
            hours += 1
            outs += step[1]
            waits += step[1] * hours
    return task, hours, outs, waits


def moved(task, other, times):
    """The other TASK, with who waits and who is inside changed so many times more as from the one TASK to it."""
    waiting = [there + times * (there - here) for here, there in zip(task[2], other[2])]
    inside = [there + times * (there - here) for here, there in zip(task[3], other[3])]
    return other[0], other[1], tuple(waiting), tuple(inside)


def turn_often(task, steps, times):
    """As turn_once, of a TURN that is done so many times."""
    first = turn_once(task, steps)
    if first is None or times == 1:
        return first
    # It can be done each time if it can be the first time, the second one, where it begins at its own end, and the
    # last one: who waits and who is inside changes by the same numbers each time.
    second = turn_once(first[0], steps)
    last = None if second is None else turn_once(moved(task, first[0], times - 2), steps)
    if last is None:
        return None
    further = times - 1
    _, hours, outs, waits = second
    later = outs * (further * first[1] + hours * (further * (further - 1) // 2))
    return last[0], first[1] + further * hours, first[2] + further * outs, first[3] + further * waits + later


def done_by(task, plan):
    """The quadruple (TASK behind it, HOURS, WAITS, None) of what is known to be a PLAN.

    If a pair of it cannot be done the last one is the number of the first such pair.
    """
    total = 0
    waits = 0
    for number, (times, steps) in enumerate(plan):
        told = turn_often(task, steps, times)
        if told is None:
            return task, total, waits, number
        waits += told[3] + told[2] * total
        total += told[1]
        task = told[0]
    return task, total, waits, None


def plan_told(task, plan):
    """The triple of the TASK behind the PLAN, of its HOURS, and of the WAITS of all boats that go out in it."""
    need_task(task)
    told = done_by(task, need_plan(plan))
    if told[3] is not None:
        raise BadPlan(told[3])
    return told[:3]


def end_of_plan(task, value):
    """The triple of what is told of any value that is a PLAN that does the TASK, otherwise None."""
    try:
        told = plan_told(task, value)
    except BadPlan:
        return None
    return told if is_all_done(told[0]) else None


def is_plan(task, value):
    """Whether any value is a PLAN that does the TASK."""
    need_task(task)
    return end_of_plan(task, value) is not None


def are_numbers(thing, numbers):
    """Whether any value is this pair of integers."""
    return is_tuple_of(thing, 2) and is_integer(thing[0]) and is_integer(thing[1]) and thing == numbers


def is_fewest(task, paper):
    """Whether a paper ("fewest", PLAN, OWN, OTHER) holds of a TASK that is not done, but can be."""
    told = end_of_plan(task, paper[1])
    if told is None or told[1] != fewest_hours(task):
        return False
    return all([are_numbers(paper[2 + at], least_changes(task, BEGINNINGS[at])) for at in range(2)])


def is_waits(task, paper):
    """Whether a paper ("waits", PLAN, OWN, OTHER) holds of a TASK that is not done, but can be."""
    told = end_of_plan(task, paper[1])
    if told is None or told[2] != least_waits(task):
        return False
    return all([is_integer(paper[2 + at]) and paper[2 + at] == waits_by(task, BEGINNINGS[at]) for at in range(2)])


def holds_of_task(task, paper):
    """Whether a paper with one of the words of PAPERS on a TASK holds."""
    if paper[0] == "done":
        return is_all_done(task)
    if paper[0] == "never":
        return not can_be_done(task)
    if is_all_done(task) or not can_be_done(task):
        return False
    return is_fewest(task, paper) if paper[0] == "fewest" else is_waits(task, paper)


def is_paper_on_task(paper):
    """Whether any value has the form of a paper on a TASK."""
    if is_worded(paper, "done", 1) or is_worded(paper, "never", 1):
        return True
    return is_worded(paper, "fewest", 4) or is_worded(paper, "waits", 4)


def check_plan(task, paper):
    """The first word of a PAPER on the TASK that holds."""
    need_task(task)
    if not is_paper_on_task(paper):
        raise BadPaper("form")
    if not holds_of_task(task, paper):
        raise BadPaper(paper[0])
    return paper[0]
