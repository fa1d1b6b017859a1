"""PLANS that do a TASK in the least HOURS, with the least WAITS, their COURSES, and PAPERS on a TASK."""

from lockkeeper.errors import Nothing, TooMany
from lockkeeper.planpapers import gate_step, plan_told, turn_often
from lockkeeper.tasks import (
    BEGINNINGS, can_be_done, is_all_done, least_changes, least_hours_by, least_waits_by, need_beginning, need_task,
    upright)

OTHER_STEP = {"fill": "empty", "empty": "fill", "upper": "lower", "lower": "upper"}


def step_overturned(step):
    """The STEP upside down."""
    return (OTHER_STEP[step[0]],) + step[1:]


def plan_overturned(plan):
    """The PLAN upside down."""
    return tuple([(times, tuple([step_overturned(step) for step in steps])) for times, steps in plan])


def step_at(task, gate):
    """The STEP at a gate in which all who want to go out do, and then as many come in as there is room for."""
    lock, _, (above, below), (downward, upward) = task
    out, wanting = (upward, above) if gate == "upper" else (downward, below)
    return gate, out, min(lock[3] - downward - upward + out, wanting)


def turn_at(task):
    """The TURN from the upper gate to the lower one and back, cut off where the TASK is done."""
    lower = step_at(task, "lower")
    further = gate_step((task[0], "lower", task[2], task[3]), lower)
    if is_all_done(further):
        return ("empty",), lower
    return ("empty",), lower, ("fill",), step_at(further, "upper")


def times_of_turn(task, other, steps):
    """How many times the same TURN is to be done from a TASK, if once it leads to the other one."""
    if task[3] != other[3] or len(steps) < 4:
        return 1
    waiting = ((task[2][1], steps[1][2]), (task[2][0], steps[3][2]))
    return min([many // come for many, come in waiting if come > 0])


def turns_from(task):
    """The list of the pairs (TIMES, TURN) that do a TASK from the upper gate on, which is not opened at first."""
    plan = []
    while not is_all_done(task):
        steps = turn_at(task)
        other = turn_often(task, steps, 1)[0]
        times = times_of_turn(task, other, steps)
        plan.append((times, steps))
        task = turn_often(task, steps, times)[0]
    return plan


def upright_plan(task, beginning):
    """As plan_of, of a TASK with the PLACE "upper"."""
    if beginning == "own":
        step = step_at(task, "upper")
        return tuple([(1, (step,))] + turns_from(gate_step(task, step)))
    if is_all_done(task):
        return ((1, (("empty",), ("lower", 0, 0))),)
    return tuple(turns_from(task))


def plan_of(task, beginning):
    """As plan_by, of a TASK that can be done."""
    plan = upright_plan(upright(task), beginning)
    return plan if task[1] == "upper" else plan_overturned(plan)


def plan_by(task, beginning):
    """A PLAN that does the TASK with this BEGINNING, in the least HOURS, with the least WAITS."""
    need_task(task)
    need_beginning(beginning)
    if not can_be_done(task):
        raise Nothing(beginning)
    return plan_of(task, beginning)


def water_hours(lock, level, far):
    """The list of the HOURS in which the water goes straight to another level, each time as far as it can."""
    hours = []
    while level != far:
        level = min(far, level + lock[1]) if level < far else max(far, level - lock[2])
        hours.append(("water", level))
    return hours


def course_of_plan(task, plan):
    """The COURSE of the PLAN."""
    if plan_told(task, plan)[1] > 400:
        raise TooMany(400)
    lock, place, _, _ = task
    level = lock[0] if place == "upper" else 0
    course = []
    for times, steps in plan:
        # More times than HOURS there are only of TURNS without any.
        for step in steps * min(times, 401):
            if len(step) == 3:
                course.append(step)
            else:
                far = lock[0] if step[0] == "fill" else 0
                course.extend(water_hours(lock, level, far))
                level = far
    return tuple(course)


def paper_by(task, word, cost_by, told_by):
    """A PAPER on the TASK: with a PLAN by the BEGINNING with the least cost, and what is told by both."""
    need_task(task)
    if is_all_done(task):
        return ("done",)
    if not can_be_done(task):
        return ("never",)
    costs = [cost_by(task, beginning) for beginning in BEGINNINGS]
    plan = plan_of(task, BEGINNINGS[costs.index(min(costs))])
    return word, plan, told_by(task, BEGINNINGS[0]), told_by(task, BEGINNINGS[1])


def task_paper(task):
    """A PAPER on the TASK with "done", "never" or "fewest"."""
    return paper_by(task, "fewest", least_hours_by, least_changes)


def waits_paper(task):
    """A PAPER on the TASK with "done", "never" or "waits"."""
    return paper_by(task, "waits", least_waits_by, least_waits_by)
