"""TASKS by a plain search through all COURSES that do them, hour by hour, straight by [70] to [75]."""

import functools
import heapq

from tests.plain import straight

# A state is (LEVEL, WAITING, INSIDE, the BEGINNING or None, the gate last opened or PLACE).


def is_done(state):
    return state[1] == (0, 0) and state[2] == (0, 0)


def gate_hours(lock, state):
    """All HOURS at gates as in [70], each with the state behind it, the BEGINNING left out."""
    level, (above, below), (downward, upward), _, _ = state
    if level == lock[0]:
        for out in range(upward + 1):
            for come in range(above + 1):
                if downward + upward - out + come <= lock[3]:
                    yield ("upper", out, come), (level, (above - come, below), (downward + come, upward - out))
    if level == 0:
        for out in range(downward + 1):
            for come in range(below + 1):
                if downward + upward - out + come <= lock[3]:
                    yield ("lower", out, come), (level, (above, below - come), (downward - out, upward + come))


def hours_on(task, state):
    """All HOURS, each with the state behind it."""
    lock, place = task[0], task[1]
    level, waiting, inside, begun, last = state
    for far in range(lock[0] + 1):
        if straight(lock, level, far) <= 1:
            yield ("water", far), (far, waiting, inside, begun, last)
    for hour, behind in gate_hours(lock, state):
        yield hour, (*behind, begun or ("own" if hour[0] == place else "other"), hour[0])


def left(state):
    """How many boats have not gone out."""
    return sum(state[1]) + sum(state[2])


def costs(kind, state, hour):
    """What an HOUR costs: pairs that are added up."""
    if kind == "hours":
        return 1, left(state)
    if kind == "waits":
        return left(state), 1
    turned = hour[0] != "water" and hour[0] != state[4]
    down, up = int(turned and hour[0] == "lower"), int(turned and hour[0] == "upper")
    return {"down": (down, up), "up": (up, down)}[kind]


@functools.lru_cache(maxsize=None)
def cheapest(task, kind):
    """For each BEGINNING the least costs of a COURSE that does the TASK with it, a dict; None for no gate at all."""
    lock, place, waiting, inside = task
    first = (lock[0] if place == "upper" else 0, waiting, inside, None, place)
    queue, seen, told = [((0, 0), 0, first)], set(), {}
    order = 0
    while queue:
        cost, _, state = heapq.heappop(queue)
        if state in seen:
            continue
        seen.add(state)
        if is_done(state):
            told.setdefault(state[3], cost)
        for hour, behind in hours_on(task, state):
            if behind not in seen:
                one, other = costs(kind, state, hour)
                order += 1
                heapq.heappush(queue, ((cost[0] + one, cost[1] + other), order, behind))
    return told


def least_by(task, kind, beginning):
    return cheapest(task, kind).get(beginning)


def fewest_hours(task):
    told = cheapest(task, "hours")
    return min(told.values())[0] if told else None


def least_waits(task):
    told = cheapest(task, "waits")
    return min(told.values())[0] if told else None


def front(lock, place, inside, hours, most):
    """The FRONT, where no pair has more than so many of either."""
    pairs = []
    for above in range(most + 2):
        for below in range(most + 2):
            told = fewest_hours((lock, place, (above, below), inside))
            if told is not None and told <= hours:
                pairs.append((above, below))
    assert all(max(pair) <= most for pair in pairs)
    return tuple(sorted(pair for pair in pairs
                        if not any(other != pair and other[0] >= pair[0] and other[1] >= pair[1] for other in pairs)))


def lasts(lock, period, coming, most):
    """Whether some endless course of HOURS has never more than so many waiting, of either, from the upper gate on."""
    def behind(at, state):
        waiting = state[1]
        if at == 0:
            waiting = (waiting[0] + coming[0], waiting[1] + coming[1])
        here = (state[0], waiting, state[2], None, None)
        for far in range(lock[0] + 1):
            if straight(lock, state[0], far) <= 1:
                yield (far, waiting, state[2])
        for _, further in gate_hours(lock, here):
            yield further
    start = (0, (lock[0], (0, 0), (0, 0)))
    leads, left_over = {}, [start]
    while left_over:
        at, state = left_over.pop()
        if (at, state) in leads:
            continue
        leads[(at, state)] = {((at + 1) % period, further) for further in behind(at, state) if max(further[1]) <= most}
        left_over.extend(leads[(at, state)])
    alive = set(leads)
    while True:
        kept = {node for node in alive if leads[node] & alive}
        if kept == alive:
            return start in alive
        alive = kept
