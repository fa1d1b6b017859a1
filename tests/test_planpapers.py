import random
import unittest

from lockkeeper.errors import BadPaper, BadPlan, BadTask
from lockkeeper.planpapers import check_plan, is_plan, need_plan, plan_told
from lockkeeper.plans import plan_by, task_paper, waits_paper
from lockkeeper.tasks import fewest_hours, is_done, least_waits
from tests import plainplans
from tests.asking import Asking
from tests.plain import OTHERS, variants
from tests.plainplans import judge_plan
from tests.somebooks import BIG
from tests.test_tasks import LOCKS, SMALL, insides

TASK = ((10, 3, 2, 2), "upper", (5, 3), (1, 0))
GATES = [(gate, out, come) for gate in ("upper", "lower") for out in range(3) for come in range(3)]
STEPS = [("fill",), ("empty",)] * 4 + GATES


def plan_by_chance(chance):
    return tuple((chance.choice((1, 1, 2, 3, 5)), tuple(chance.choice(STEPS) for _ in range(chance.choice((1, 2, 2, 4, 4, 8)))))
                 for _ in range(chance.randrange(4)))


def turn_that_can_be_done(chance, task):
    """A TURN that can be done once from a TASK."""
    steps = []
    for _ in range(chance.randint(1, 8)):
        can = [step for step in STEPS if type(plainplans.done(task, ((1, tuple(steps) + (step,)),))) is tuple]
        steps.append(chance.choice(can))
    return tuple(steps)


class Plans(Asking):

    def test_what_is_a_plan(self):
        step, turn = ("upper", 2, 0), (("fill",), ("lower", 0, 2))
        for plan in [(), ((1, (step,)),), ((BIG, turn * 4),), ((1, turn),) * 20, ((3, (("empty",),)), (BIG, (("lower", 2, 2),)))]:
            self.assertIs(need_plan(thing=plan), plan)

    def test_what_is_none(self):
        turn = (("fill",),)
        for thing in OTHERS + [((1, turn),) * 21, [(1, turn)]]:
            self.refused(BadPlan, {"number": None}, need_plan, thing)
            self.refused(BadPlan, {"number": None}, plan_told, TASK, thing)
            self.assertIs(is_plan(TASK, thing), False)
        wrong = [(0, turn), (-1, turn), (BIG + 1, turn), (True, turn), (1, ()), (1, turn * 9), (1,), (1, turn, 0), [1, turn], (1, list(turn)), (1, ((),)),
                 (1, (("full",),)), (1, (("fill", 0),)), (1, ("fill",)), (1, (("upper", 1),)), (1, (("upper", -1, 0),)), (1, (("upper", 0, 3),)), (1, (("upper", 0, -1),)), (1, (("lower", 1, -1),)),
                 (1, (("upper", 3, 0),)), (1, (("lower", True, 0),)), (1, (("lower", 0, False),)), (1, (("lower", 0, 0, 0),)), (1, ((b"fill",),)),
                 (1, (["fill"],)), (1, (("water", 0),)), (1, ((("fill",),),))] + OTHERS
        for thing in wrong:
            self.refused(BadPlan, {"number": 0}, need_plan, (thing,))
            self.refused(BadPlan, {"number": 2}, need_plan, ((1, turn), (2, turn), thing, None))
            # The form of all pairs comes ahead of what cannot be done.
            self.refused(BadPlan, {"number": 1}, plan_told, TASK, ((1, (("lower", 0, 0),)), thing))
            self.assertIs(is_plan(TASK, ((1, turn), thing)), False)

    def test_told_step_by_step(self):
        chance = random.Random(80)
        told = {True: 0, False: 0}
        for _ in range(3000):
            lock = chance.choice(LOCKS)
            task = (lock, chance.choice(("upper", "lower")), (chance.randrange(6), chance.randrange(6)), chance.choice(insides(lock)))
            plan = plan_by_chance(chance)
            if chance.random() < 0.7:
                turn = turn_that_can_be_done(chance, task)
                plan = ((chance.choice((1, 2, 3, 7)), turn),) + plan[:1]
            plain = plainplans.done(task, plan)
            if type(plain) is int:
                self.refused(BadPlan, {"number": plain}, plan_told, task, plan)
                self.assertIs(is_plan(task, plan), False)
            else:
                self.told(plain[0], plan_told(task=task, plan=plan))
                self.assertIs(is_plan(task=task, value=plan), is_done(plain[0][0]))
            told[type(plain) is int] += 1
        self.assertGreater(min(told.values()), 400)

    def test_many_times(self):
        """What a TURN does so often is what it does as often in several pairs."""
        lock = (BIG, BIG // 3, BIG // 4, 2)
        turn = (("empty",), ("lower", 2, 1), ("fill",), ("upper", 1, 2))
        task = (lock, "upper", (BIG, BIG), (2, 0))
        self.told(((lock, "upper", (BIG - 200, BIG - 100), (2, 0)), 1000, 2 * (5 * 100 + 10 * 4950) + 10 * 5050), plan_told(task, ((100, turn),)))
        for times in (2, 7, BIG // 2):
            whole = plan_told(task, ((times, turn),))
            self.told(whole, plan_told(task, ((1, turn), (times - 1, turn))))
            self.told(whole, plan_told(task, ((times - 1, turn), (1, turn))))
        half = BIG // 2
        self.told((lock, "upper", (0, half), (2, 0)), plan_told(task, ((half, turn),))[0])
        self.refused(BadPlan, {"number": 0}, plan_told, task, ((half + 1, turn),))
        self.refused(BadPlan, {"number": 1}, plan_told, task, ((half, turn), (1, turn)))
        # It cannot be done a second time: the level is another one then.
        self.refused(BadPlan, {"number": 0}, plan_told, task, ((2, (("upper", 0, 0), ("empty",))),))
        plan_told(task, ((1, (("upper", 0, 0), ("empty",))),))
        # The chamber would be full the third time.
        few = (lock, "upper", (BIG, 0), (0, 0))
        self.told((lock, "upper", (BIG - 2, 0), (2, 0)), plan_told(few, ((2, (("upper", 0, 1),)),))[0])
        self.refused(BadPlan, {"number": 0}, plan_told, few, ((3, (("upper", 0, 1),)),))
        self.refused(BadPlan, {"number": 0}, plan_told, few, ((BIG, (("upper", 0, 1),)),))

    def test_the_place_behind(self):
        for lock in [(0, 1, 1, 1), (2, 1, 1, 1)]:
            for place in ("upper", "lower"):
                task = (lock, place, (0, 0), (0, 0))
                self.told((task, 0, 0), plan_told(task, ()))
                self.assertIs(is_plan(task, ()), True)
                self.told(((lock, "upper", (0, 0), (0, 0)), 2 if lock[0] and place == "lower" else 0, 0), plan_told(task, ((1, (("fill",),)),)))
                self.told(((lock, "lower", (0, 0), (0, 0)), 2 if lock[0] and place == "upper" else 0, 0), plan_told(task, ((9, (("empty",),)),)))
        # With the TOP 0 both gates can be opened at once.
        self.told((((0, 1, 1, 1), "lower", (0, 0), (0, 0)), 2, 2), plan_told(((0, 1, 1, 1), "upper", (1, 0), (0, 0)), ((1, (("upper", 0, 1), ("lower", 1, 0))),)))
        self.refused(BadPlan, {"number": 0}, plan_told, ((1, 1, 1, 1), "upper", (1, 0), (0, 0)), ((1, (("upper", 0, 1), ("lower", 1, 0))),))

    def test_no_more_goes_out_than_wants(self):
        for boats in (0, 1, BIG):
            task = ((2, 1, 1, 2), "upper", (boats, boats), (0, 1))
            self.refused(BadPlan, {"number": 0}, plan_told, task, ((1, (("upper", 2, 0),)),))
            # A boat does not go out by the gate by which it came in.
            self.refused(BadPlan, {"number": 1}, plan_told, task, ((1, (("upper", 1, min(1, boats)),)), (1, (("upper", 1, 0),))))

    def test_in_turn(self):
        for thing in OTHERS:
            self.refused(BadTask, {"part": "form"}, plan_told, thing, None)
            self.refused(BadTask, {"part": "form"}, is_plan, thing, None)
        self.refused(BadTask, {"part": "inside"}, plan_told, TASK[:3] + ((3, 0),), None)


class Papers(Asking):

    def test_with_one_thing_otherwise(self):
        chance = random.Random(81)
        words = {}
        tasks = chance.sample(SMALL, 60) + [((1, 1, 1, 0), "upper", (0, 2), (0, 0)), ((1, 1, 1, 2), "upper", (0, 0), (0, 0))]
        for task in tasks:
            for call in (task_paper, waits_paper):
                paper = call(task)
                papers = list(variants(paper))
                told = self.judged_alike(judge_plan, check_plan, (task,), [paper] + chance.sample(papers, min(60, len(papers))))
                for word in told:
                    words[word] = words.get(word, 0) + told[word]
        self.assertLessEqual({"fewest", "waits", "done", "never", ("bad", "fewest"), ("bad", "waits"), ("bad", "form")}, set(words))

    def test_other_plans(self):
        """PLANS by the other BEGINNING, PLANS that wait, PLANS of other TASKS."""
        chance = random.Random(82)
        words = {}
        for task in chance.sample(SMALL, 80):
            papers = [("done",), ("never",), ("fewest", (), (0, 0), (1, 0)), ("waits", (), 0, 0)]
            for call in (task_paper, waits_paper):
                paper = call(task)
                if len(paper) == 4:
                    plans = [plan_by(task, beginning) for beginning in ("own", "other")]
                    plans += [plan + ((1, (("fill",),)),) for plan in plans] + [((1, (("empty",), ("fill",))),) + plan for plan in plans]
                    plans += [plan[:-1] for plan in plans] + [plan_by(chance.choice(SMALL[:300]), "own")]
                    papers += [(paper[0], plan) + paper[2:] for plan in plans]
                    papers += [paper[:2] + (paper[3], paper[2]), ("waits",) + paper[1:], ("fewest",) + paper[1:]]
            told = self.judged_alike(judge_plan, check_plan, (task,), papers)
            for word in told:
                words[word] = words.get(word, 0) + told[word]
        self.assertGreater(min(words["fewest"], words["waits"], words[("bad", "fewest")], words[("bad", "waits")]), 20)
        self.assertLessEqual({("bad", "done"), ("bad", "never"), "done", "never"}, set(words))

    def test_done_and_never(self):
        for lock in LOCKS:
            task = (lock, "upper", (0, 0), (0, 0))
            self.told("done", check_plan(task=task, paper=("done",)))
            self.refused(BadPaper, {"part": "never"}, check_plan, task, ("never",))
            self.refused(BadPaper, {"part": "fewest"}, check_plan, task, ("fewest", (), (0, 0), (1, 0)))
            self.refused(BadPaper, {"part": "waits"}, check_plan, task, ("waits", (), 0, 0))
            task = (lock[:3] + (0,), "lower", (1, 0), (0, 0))
            self.told("never", check_plan(task, ("never",)))
            self.refused(BadPaper, {"part": "done"}, check_plan, task, ("done",))
            self.refused(BadPaper, {"part": "fewest"}, check_plan, task, ("fewest", (), None, None))
            self.refused(BadPaper, {"part": "waits"}, check_plan, task, ("waits", (), None, None))

    def test_forms(self):
        for thing in OTHERS + [(), ("done", 0), ("never", 0), ("fewest", (), (0, 0)), ("waits", (), 0, 0, 0), ["done"], (None,), (b"done",), ("need", (), 0, 0)]:
            self.refused(BadPaper, {"part": "form"}, check_plan, TASK, thing)
        for thing in OTHERS:
            for word, call in (("fewest", task_paper), ("waits", waits_paper)):
                paper = call(TASK)
                self.refused(BadPaper, {"part": word}, check_plan, TASK, (word, thing) + paper[2:])
                self.refused(BadPaper, {"part": word}, check_plan, TASK, paper[:2] + (thing, paper[3]))
                self.refused(BadPaper, {"part": word}, check_plan, TASK, paper[:3] + (thing,))
            self.refused(BadPaper, {"part": "fewest"}, check_plan, TASK, ("fewest", plan_by(TASK, "own"), (thing, thing), (4, 3)))
            self.refused(BadTask, {"part": "form"}, check_plan, thing, None)

    def test_fewer_pairs_would_do(self):
        """A paper may have up to 20 pairs; those that wait are no fewest ones, but may have the LEAST WAITS."""
        task = ((2, 1, 1, 1), "upper", (0, 1), (0, 0))
        plan = plan_by(task, "other")
        late = plan + ((1, (("empty",),)),) * (20 - len(plan))
        self.told((6, 6), (fewest_hours(task), least_waits(task)))
        paper = waits_paper(task)
        self.told("waits", check_plan(task, ("waits", late) + paper[2:]))
        self.refused(BadPaper, {"part": "waits"}, check_plan, task, ("waits", late + plan[:1]) + paper[2:])
        self.refused(BadPaper, {"part": "fewest"}, check_plan, task, ("fewest", late) + task_paper(task)[2:])

    def test_great_ones(self):
        for task in [((BIG, 3, BIG, 2), "lower", (BIG, BIG), (1, 1)), ((0, 1, 1, 1), "upper", (BIG, 0), (0, 1)), ((BIG, 1, 1, 2), "upper", (BIG - 1, 1), (2, 0))]:
            for call in (task_paper, waits_paper):
                paper = call(task)
                self.told(paper[0], check_plan(task, paper))
                times, turn = paper[1][-1]
                wrong = paper[1][:-1] + ((times + 1, turn),)
                self.refused(BadPaper, {"part": paper[0]}, check_plan, task, (paper[0], wrong) + paper[2:])


if __name__ == "__main__":
    unittest.main()
