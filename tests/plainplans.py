"""PLANS walked STEP by STEP, and the PAPERS on a TASK, straight by [72] to [74]."""

from tests import plaintasks
from tests.plain import same
from tests.plainbooks import is_int
from tests.plainjudges import is_paper


def is_step(step):
    if type(step) is not tuple or not step or type(step[0]) is not str:
        return False
    if step in (("fill",), ("empty",)):
        return True
    return len(step) == 3 and step[0] in ("upper", "lower") and is_int(step[1], 0, 2) and is_int(step[2], 0, 2)


def wrong_pair(value):
    """False of a PLAN, else None or the number of the first pair that is none."""
    if type(value) is not tuple or len(value) > 20:
        return None
    for number, pair in enumerate(value):
        if type(pair) is not tuple or len(pair) != 2 or not is_int(pair[0], 1, 10 ** 30):
            return number
        if type(pair[1]) is not tuple or not 1 <= len(pair[1]) <= 8 or not all(is_step(step) for step in pair[1]):
            return number
    return False


def water(lock, level, far):
    """The levels on the straight way."""
    while level != far:
        level = min(far, level + lock[1]) if far > level else max(far, level - lock[2])
        yield level


def done(task, plan):
    """The triple (TASK, HOURS, WAITS) behind a PLAN, and its COURSE; or the number of the first pair that cannot be done."""
    lock, place, waiting, inside = task
    level, waits, course = (lock[0] if place == "upper" else 0), 0, []
    for number, (times, turn) in enumerate(plan):
        for _ in range(times):
            for step in turn:
                if len(step) == 1:
                    far, place = (lock[0], "upper") if step == ("fill",) else (0, "lower")
                    course += [("water", height) for height in water(lock, level, far)]
                    level = far
                    continue
                behinds = [behind for hour, behind in plaintasks.gate_hours(lock, (level, waiting, inside, None, None)) if hour == step]
                if not behinds:
                    return number
                _, waiting, inside = behinds[0]
                place = step[0]
                course.append(step)
                waits += step[1] * len(course)
    return ((lock, place, waiting, inside), len(course), waits), tuple(course)


def beginning_of(task, course):
    gates = [hour[0] for hour in course if hour[0] != "water"]
    return ("own" if gates[0] == task[1] else "other") if gates else None


def does(task, value):
    """What is told of any value that is a PLAN that does the TASK, else None."""
    if wrong_pair(value) is not False:
        return None
    told = done(task, value)
    if type(told) is int or told[0][0][2:] != ((0, 0), (0, 0)):
        return None
    return told[0]


def judge_plan(task, paper):
    """The word of a paper that holds, or a pair of "bad" and the part."""
    if not any(is_paper(paper, word, many) for word, many in (("done", 1), ("never", 1), ("fewest", 4), ("waits", 4))):
        return ("bad", "form")
    bad, (lock, _, waiting, inside) = ("bad", paper[0]), task
    is_done = waiting == inside == (0, 0)
    if len(paper) == 1:
        holds = is_done if paper[0] == "done" else not is_done and lock[3] == 0
        return paper[0] if holds else bad
    if is_done or lock[3] == 0:
        return bad
    told = does(task, paper[1])
    if told is None:
        return bad
    if paper[0] == "fewest":
        rows = [(plaintasks.least_by(task, "down", beginning)[0], plaintasks.least_by(task, "up", beginning)[0]) for beginning in ("own", "other")]
        return "fewest" if told[1] == plaintasks.fewest_hours(task) and same(tuple(rows), paper[2:]) else bad
    rows = [plaintasks.least_by(task, "waits", beginning)[0] for beginning in ("own", "other")]
    return "waits" if told[2] == plaintasks.least_waits(task) and same(tuple(rows), paper[2:]) else bad
