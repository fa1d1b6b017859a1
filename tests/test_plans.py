import itertools
import unittest

from lockkeeper.courses import last_stand, need_course, passed_of
from lockkeeper.errors import BadPlan, BadTask, Nothing, TooMany
from lockkeeper.planpapers import check_plan, need_plan, plan_told
from lockkeeper.plans import course_of_plan, plan_by, task_paper, waits_paper
from lockkeeper.tasks import fewest_hours, hours_by, is_done, least_waits, task_overturned, waits_by
from tests import plainplans
from tests.asking import Asking
from tests.plain import OTHERS
from tests.somebooks import BIG, ONE
from tests.test_tasks import LARGER, SMALL, TASK

MORE = [((3, 2, 1, room), place, waiting, inside) for room in (1, 2) for place in ("upper", "lower")
        for waiting in itertools.product((0, 1, 3, 6, 7, 8), repeat=2) for inside in [(0, 0), (1, 0), (0, 1)]]


def is_never(task):
    return task[0][3] == 0 and not is_done(task)


class Plans(Asking):

    def test_plans_walked_step_by_step(self):
        for task in SMALL + LARGER + MORE:
            for beginning in ("own", "other"):
                if is_never(task):
                    self.refused(Nothing, {"given": beginning}, plan_by, task, beginning)
                    continue
                plan = plan_by(task=task, beginning=beginning)
                self.assertIs(need_plan(plan), plan)
                self.assertLessEqual(len(plan), 8)
                told, course = plainplans.done(task, plan)
                self.assertIs(is_done(told[0]), True)
                self.told((hours_by(task, beginning), waits_by(task, beginning)), told[1:])
                self.assertEqual(plainplans.beginning_of(task, course), beginning)
                self.told(course, course_of_plan(task=task, plan=plan))

    def test_papers_hold(self):
        for task in SMALL + LARGER + MORE:
            for call, word, least in ((task_paper, "fewest", fewest_hours), (waits_paper, "waits", least_waits)):
                paper = call(task=task)
                word = "done" if is_done(task) else "never" if is_never(task) else word
                self.told(word, check_plan(task, paper))
                self.assertEqual(paper[0], word)
                if word in ("fewest", "waits"):
                    self.told(least(task), plan_told(task, paper[1])[1 if word == "fewest" else 2])
                if sum(task[2]) <= 6:
                    self.assertEqual(plainplans.judge_plan(task, paper), word)

    def test_courses_are_courses(self):
        for task in SMALL[::3] + [TASK]:
            if not is_never(task):
                lock, place, (above, below), (downward, upward) = task
                stand = (lock[0] if place == "upper" else 0, downward + upward)
                for beginning in ("own", "other"):
                    course = course_of_plan(task, plan_by(task, beginning))
                    self.assertIs(need_course(lock, stand, course), course)
                    self.assertEqual(last_stand(lock, stand, course)[1], 0)
                    self.told((above, upward + below, below, downward + above), passed_of(lock, stand, course))

    def test_what_is_told(self):
        task = ((3, 2, 3, 1), "upper", (3, 0), (0, 0))
        first, turn, last = (("upper", 0, 1),), (("empty",), ("lower", 1, 0), ("fill",), ("upper", 0, 1)), (("empty",), ("lower", 1, 0))
        self.told(((1, first), (2, turn), (1, last)), plan_by(task, "own"))
        self.told((("upper", 0, 1), ("water", 0), ("lower", 1, 0), ("water", 2), ("water", 3), ("upper", 0, 1), ("water", 0), ("lower", 1, 0)),
                  course_of_plan(task, ((1, first), (1, turn), (1, last))))
        self.told(((1, (("upper", 0, 0),)),), plan_by((task[0], "upper", (0, 0), (0, 0)), "own"))
        self.told(((1, (("fill",), ("upper", 0, 0))),), plan_by((task[0], "lower", (0, 0), (0, 0)), "other"))
        self.told(((1, (("upper", 0, 0),)),), plan_by(((2, 1, 1, 0), "upper", (0, 0), (0, 0)), "own"))
        self.told(("done",), task_paper((ONE, "lower", (0, 0), (0, 0))))
        self.told(("never",), waits_paper((ONE[:3] + (0,), "lower", (0, 1), (0, 0))))
        self.told(("fewest", ((1, (("upper", 1, 0),)),), (0, 0), (1, 1)), task_paper((ONE, "upper", (0, 0), (0, 1))))
        self.told(("waits", ((1, (("upper", 1, 0),)),), 1, 6), waits_paper((ONE, "upper", (0, 0), (0, 1))))

    def test_upside_down(self):
        names = {"fill": "empty", "empty": "fill", "upper": "lower", "lower": "upper"}
        for task in SMALL[::5]:
            if not is_never(task):
                for beginning in ("own", "other"):
                    plan = plan_by(task, beginning)
                    over = tuple((times, tuple((names[step[0]], *step[1:]) for step in turn)) for times, turn in plan)
                    self.told(plan_told(task, plan)[1:], plan_told(task_overturned(task), over)[1:])

    def test_great_ones(self):
        for lock in [(BIG, 3, BIG, 2), (0, 1, 1, 2), (BIG, 1, 1, 1)]:
            for waiting in itertools.product((0, 1, BIG - 1, BIG), repeat=2):
                for inside in [(0, 0), (1, 0), (0, 1)]:
                    for place in ("upper", "lower"):
                        task = (lock, place, waiting, inside)
                        for call in (task_paper, waits_paper):
                            paper = call(task)
                            self.told(paper[0], check_plan(task, paper))
                            self.assertTrue(len(paper) == 1 or len(paper[1]) <= 8)

    def test_courses_are_bounded(self):
        task = ((397, 1, 1, 1), "upper", (1, 0), (0, 0))
        plan = plan_by(task, "own")
        self.assertEqual(len(course_of_plan(task, plan)), 399)
        self.assertEqual(len(course_of_plan(task, ((1, (("upper", 0, 0),)),) + plan)), 400)
        self.refused(TooMany, {"most": 400}, course_of_plan, task, ((2, (("upper", 0, 0),)),) + plan)
        self.refused(TooMany, {"most": 400}, course_of_plan, task, ((BIG, (("upper", 0, 0),)),))
        self.assertEqual(len(course_of_plan(task, ((400, (("upper", 0, 0),)),))), 400)
        # Without HOURS it may be done however often.
        self.told((("water", 0), ("lower", 0, 0)), course_of_plan(((1, 1, 1, 1), "upper", (0, 0), (0, 0)), ((BIG, (("empty",),)), (1, (("lower", 0, 0),)))))
        self.told((), course_of_plan(((0, 1, 1, 1), "upper", (0, 0), (0, 0)), ((BIG, (("empty",), ("fill",)) * 4),) * 20))
        self.told((), course_of_plan(task, ()))

    def test_wrong_arguments(self):
        for call in (task_paper, waits_paper, lambda task: plan_by(task, None), lambda task: course_of_plan(task, None)):
            for thing in OTHERS + [TASK[:3]]:
                self.refused(BadTask, {"part": "form"}, call, thing)
            self.refused(BadTask, {"part": "waiting"}, call, TASK[:2] + ((-1, 0), None))
        never = (ONE[:3] + (0,), "upper", (1, 0), (0, 0))
        for thing in OTHERS + ["upper", "Own"]:
            self.refused(BadTask, {"part": "beginning"}, plan_by, never, thing)
            self.refused(BadPlan, {"number": None}, course_of_plan, TASK, thing)
        self.refused(BadPlan, {"number": 1}, course_of_plan, TASK, ((BIG, (("upper", 0, 0),)), (1, (("lower", 0, 0),))))
        self.refused(BadPlan, {"number": 2}, course_of_plan, TASK, ((1, (("lower", 0, 0),)),) * 2 + (None,))


if __name__ == "__main__":
    unittest.main()
