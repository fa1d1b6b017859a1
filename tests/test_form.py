"""The interface as it is written, and the plainest rules on the form of the code."""

import ast
import builtins
import importlib
import inspect
import pathlib
import re
import unittest

FOLDER = pathlib.Path(__file__).resolve().parent.parent / "lockkeeper"

INTERFACE = """
locks: need_lock(thing) need_stand(lock, thing) is_hour(lock, stand, thing) after_hour(lock, stand, hour)
    turned(lock) straight_hours(lock, level, far)
wants: need_wants(lock, thing) wants_backwards(lock, wants) wants_overturned(lock, wants)
courses: need_course(lock, stand, thing) last_stand(lock, stand, course) stands_of(lock, stand, course)
    marks_of(lock, stand, course) passed_of(lock, stand, course) backwards(lock, stand, course)
    overturned(lock, stand, course) does_meet(lock, stand, course, wants)
needpapers: first_knot(lock, stand, wants) steps_from(lock, stand, wants, knot)
    end_from(lock, stand, other, wants, knot) is_way(lock, stand, value) way_told(lock, stand, way)
    check_hours(lock, stand, other, wants, paper)
needs: least_hours(lock, stand, other, wants) can_be(lock, stand, other, wants, hours)
    course_in(lock, stand, other, wants, hours) hours_paper(lock, stand, other, wants)
stretches: need_lot(lock, thing) whole_lot(lock) empty_lot(lock) lot_of(lock, stands) has_stand(lock, lot, stand)
    both_lots(lock, lot, another) either_lot(lock, lot, another) other_stands(lock, lot)
    is_lot_within(lock, lot, another) many_stands(lock, lot) least_stand(lock, lot)
images: image(lock, lot, wants, hours) origin(lock, lot, wants, hours)
clocks: need_clock(thing) does_fit(clock, heard, residue) residue_behind(clock, residue, hours)
tollpapers: need_tolls(thing) is_reckoning(tolls, value) call_residues(tolls, reckoning) check_tolls(tolls, paper)
    check_toll_totals(tolls, first, last, paper) check_keens(tolls, paper)
tolls: are_tolls_right(tolls) first_wrong_call(tolls) tolls_ahead(tolls, number) tolls_behind(tolls, number)
    tolls_may(tolls, number) first_reckoning(tolls) many_reckonings(tolls) toll_totals(tolls, first, last)
    next_heard(tolls, gap) turned_clock(clock, many) least_round(clock) keens(tolls) least_toll_missed(tolls)
    least_toll_added(tolls) tolls_paper(tolls) toll_totals_paper(tolls, first, last) keens_paper(tolls)
books: need_book(thing) tolls_of(book) wants_of(book, number) part_of(book, number, last) book_overturned(book)
    book_backwards(book)
bookpapers: need_sets(book, thing) need_state(book, thing) has_state(book, sets, state) suiting(book, number)
    led_on(book, number, sets) led_by(book, number, sets, hours) need_history(book, thing) agrees(book, value)
    states_in(book, history) check_book(book, paper)
tables: led_back(book, number, sets) states_ahead(book, number) states_behind(book, number)
    states_possible(book, number) first_wrong(book) is_right(book)
histories: history_overturned(book, history) history_backwards(book, history) history_of(book)
    history_with(book, number, state) history_through(book, tables, hours=None) book_paper(book)
dutypapers: need_bounds(book, thing) need_duty(thing) bound_by(book, duty) bounds_of(book, duty)
    keeps_all(book, bounds, value) check_bounds(book, bounds, paper) check_duty(book, duty, paper)
maybes: may_levels(book, number) may_boats(book, number) may_residues(book, number) sure_things(book)
    totals(book, number, other) may_hear(book, gap) book_missed(book) book_added(book)
duties: at_once(book, bounds) bounds_paper(book, bounds) standing_of(book, duty) duty_paper(book, duty)
    all_at_once(book, duties)
notes: notes_of(book) left_out(book, bunch) kept_alone(book, bunch) mends(book) clashes(book) fewest(book)
    doubt_of(book, note) believable(book, number) corrections(book, note) notes_paper(book)
notepapers: check_notes(book, paper)
looks: is_look(book, thing) look_of(book, history, claim) answers_of(book, history, menu)
marks: marked_at(book, menu, claim, number)
trees: all_answers(book, menu) claim_word(book, claim) settles(book, menu, claim, tree) depth(book, menu, claim)
    first_looks(book, menu, claim) scant_lots(book, menu, claim) look_paper(book, menu, claim)
treepapers: need_tree(book, menu, thing) comes_to(book, menu, tree, answers) check_looks(book, menu, claim, paper)
rounds: written(book, again, many) steps(book, again) rest(book, again, many) is_right_with(book, again, many)
    turn(book, again) times_of(book, again, pair) most_rounds(book, again) span(book, again, many)
    least_pace(book, again) most_pace(book, again) ever_paper(book, again) least_pace_paper(book, again)
    most_pace_paper(book, again)
roundpapers: need_rounds(book, thing) check_ever(book, again, paper) check_pace(book, again, paper)
tasks: need_task(thing) is_done(task) task_overturned(task) least_changes(task, beginning) hours_by(task, beginning)
    waits_by(task, beginning) fewest_hours(task) least_waits(task) front(lock, place, inside, hours)
    keeps_up(lock, period, coming) least_period(lock, coming)
planpapers: need_plan(thing) plan_told(task, plan) is_plan(task, value) check_plan(task, paper)
plans: plan_by(task, beginning) course_of_plan(task, plan) task_paper(task) waits_paper(task)
texts: book_text(book) read_book(text) row_text(entry) read_row(text) is_thing(value) thing_text(thing)
    read_thing(text)
judge: names() need_case(thing) judged(binder) case_text(case) binder_text(binder) read_case(text) read_binder(text)
keepers: under(manager, deed)
"""

# Each method stands in its class itself.
CLASSES = """
keepers.Keeper: __init__(self, lock, clock, stand=_, residue=0) do(self, hour)
    write(self, things, gap=None, heard=None, signs=_) since(self) entries(self) book(self) history(self) states(self)
    __len__(self) undo(self, many=1) copy(self) trial(self) __eq__(self, other)
desk.Desk: __init__(self) say(self, line)
"""
PROPERTIES = {"keepers.Keeper": ["lock", "clock", "stand", "residue"], "desk.Desk": ["keeper"]}

ALLOWED = set("""len range enumerate zip min max sum abs sorted reversed int str bool bytes list tuple dict set frozenset
    isinstance ord repr any all divmod iter next map Exception ValueError TypeError KeyError IndexError LookupError
    ZeroDivisionError ArithmeticError OverflowError RuntimeError NotImplementedError AttributeError StopIteration
    NotImplemented property staticmethod classmethod super""".split())
TAKE_LISTS = ("any", "all", "min", "max", "sum", "sorted")
LIBRARY = {"heapq": {"heappush", "heappop", "heapify"}, "math": {"gcd"}, "itertools": {"product"}}
BARRED_WORDS = re.compile(r"\b(type|typing|enum|Enum|Flag|Generic|Protocol|ABC|NamedTuple)\b|dataclass|overload")
BARRED_NAMES = re.compile(BARRED_WORDS.pattern + r"|\b(register|mro|elements|open|input|law|version_info|add_note)\b")


def told_interface(text):
    """Triples of a module or a class, a function or a method, its parameters."""
    module = None
    for row in re.findall(r"([\w.]+):|(\w+)\(([^)]*)\)", text):
        if row[0]:
            module = row[0]
        else:
            yield module, row[1], re.split(r",\s*", row[2]) if row[2] else []


def files():
    return sorted(FOLDER.glob("*.py"))


def trees():
    return [(path.name, ast.parse(path.read_text(encoding="ascii"))) for path in files()]


class Interface(unittest.TestCase):

    def test_each_function_stands_in_its_file_with_its_parameters(self):
        many = 0
        for module, name, parameters in told_interface(INTERFACE):
            many += 1
            held = getattr(importlib.import_module(f"lockkeeper.{module}"), name)
            self.assertEqual(held.__module__, f"lockkeeper.{module}")
            told = inspect.signature(held).parameters.values()
            self.assertEqual([str(parameter) for parameter in told], parameters, name)
            for parameter in told:
                self.assertIs(parameter.kind, inspect.Parameter.POSITIONAL_OR_KEYWORD)
        self.assertEqual(many, 189)


    def test_each_method_stands_in_its_class(self):
        for place, name, parameters in told_interface(CLASSES):
            module, word = place.split(".")
            kind = getattr(importlib.import_module(f"lockkeeper.{module}"), word)
            self.assertEqual(kind.__module__, f"lockkeeper.{module}")
            told = [re.sub(r"=\(.*\)", "=_", str(parameter)) for parameter in inspect.signature(vars(kind)[name]).parameters.values()]
            self.assertEqual(told, parameters, (place, name))
        for place, names in PROPERTIES.items():
            module, word = place.split(".")
            kind = getattr(importlib.import_module(f"lockkeeper.{module}"), word)
            for name in names:
                self.assertIsInstance(vars(kind)[name], property)


class Form(unittest.TestCase):

    def test_files(self):
        self.assertIn("__init__.py", [path.name for path in files()])
        others = [path.name for path in FOLDER.iterdir() if path.suffix != ".py" and path.name != "__pycache__"]
        self.assertEqual(others, [])
        for path in files():
            lines = path.read_text(encoding="ascii").split("\n")
            self.assertLessEqual(len(lines), 399, path.name)
            for line in lines:
                self.assertLessEqual(len(line), 120, (path.name, line))
                self.assertTrue(all(" " <= sign <= "~" for sign in line), (path.name, line))

    def test_functions_are_short_and_have_docstrings(self):
        for name, tree in trees():
            self.assertTrue(ast.get_docstring(tree), name)
            for node in ast.walk(tree):
                if isinstance(node, ast.FunctionDef):
                    self.assertLessEqual(node.end_lineno - node.lineno + 1, 40, (name, node.name))
                    self.assertIn([ast.unparse(one) for one in node.decorator_list], ([], ["property"]))
                    self.assertTrue(node.name == "__init__" or ast.get_docstring(node), (name, node.name))

    def test_module_level(self):
        for name, tree in trees():
            for node in tree.body[1:]:
                self.assertIsInstance(node, (ast.ImportFrom, ast.FunctionDef, ast.ClassDef, ast.Assign), name)

    def test_imports(self):
        uses = {}
        for name, tree in trees():
            uses[name[:-3]] = []
            for node in ast.walk(tree):
                self.assertNotIsInstance(node, ast.Import)
                if not isinstance(node, ast.ImportFrom):
                    continue
                names = {alias.name for alias in node.names}
                self.assertTrue(all(alias.asname is None for alias in node.names))
                if node.module in LIBRARY:
                    self.assertLessEqual(names, LIBRARY[node.module])
                    continue
                package, module = node.module.split(".")
                self.assertEqual(package, "lockkeeper")
                uses[name[:-3]].append(module)
                there = ast.parse((FOLDER / f"{module}.py").read_text())
                bound = {part.name for part in there.body if isinstance(part, (ast.FunctionDef, ast.ClassDef))}
                bound |= {part.targets[0].id for part in there.body if isinstance(part, ast.Assign)}
                self.assertLessEqual(names, bound, name)
        self.no_rings(uses)

    def no_rings(self, uses):
        left = dict(uses)
        while left:
            free = [name for name in left if not any(used in left for used in left[name])]
            self.assertTrue(free, sorted(left))
            left = {name: left[name] for name in left if name not in free}

    def test_names(self):
        for name, tree in trees():
            imported = {alias.name for node in ast.walk(tree) if isinstance(node, ast.ImportFrom) for alias in node.names}
            read = {node.id for node in ast.walk(tree) if isinstance(node, ast.Name)}
            self.assertLessEqual(imported, read, name)
            self.assertLessEqual(read & set(dir(builtins)), ALLOWED, name)
            bound = {node.id for node in ast.walk(tree) if isinstance(node, ast.Name) and isinstance(node.ctx, ast.Store)}
            bound |= {node.arg for node in ast.walk(tree) if isinstance(node, ast.arg)}
            self.assertFalse(bound & (imported | set(dir(builtins))), name)
            loads = {node.id for node in ast.walk(tree) if isinstance(node, ast.Name) and isinstance(node.ctx, ast.Load)}
            self.assertNotIn("_", loads, name)

    def test_barred_things(self):
        for name, tree in trees():
            docs = {node.body[0].value for node in ast.walk(tree)
                    if isinstance(node, (ast.Module, ast.FunctionDef, ast.ClassDef)) and ast.get_docstring(node)}
            for node in ast.walk(tree):
                self.assertNotIsInstance(node, (ast.Global, ast.AsyncFunctionDef, ast.Await, ast.Div, ast.Set), name)
                # A class has an __eq__: so these take lists.
                if isinstance(node, ast.Call) and isinstance(node.func, ast.Name) and node.func.id in TAKE_LISTS:
                    self.assertFalse([part for part in node.args if isinstance(part, ast.GeneratorExp)], (name, node.lineno))
                if isinstance(node, ast.Attribute):
                    self.assertNotEqual(node.attr, "sort", name)
                if isinstance(node, ast.Constant):
                    self.assertNotIsInstance(node.value, (float, complex), name)
                    if isinstance(node.value, str):
                        self.assertNotIn("%", node.value, name)
                        self.assertTrue(node in docs or not BARRED_WORDS.search(node.value), name)
                if isinstance(node, ast.BinOp) and isinstance(node.op, ast.Pow):
                    self.assertIsInstance(node.right, ast.Constant, name)
                if isinstance(node, (ast.Name, ast.arg, ast.Attribute)):
                    word = getattr(node, "id", getattr(node, "arg", getattr(node, "attr", "")))
                    self.assertFalse(BARRED_NAMES.fullmatch(word), (name, word))


if __name__ == "__main__":
    unittest.main()
