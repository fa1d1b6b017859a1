import random
import unittest

from lockkeeper.desk import Desk
from lockkeeper.errors import LockError
from lockkeeper.keepers import Keeper
from lockkeeper.maybes import may_boats, may_levels, may_residues
from lockkeeper.stretches import many_stands
from lockkeeper.tables import first_wrong, is_right, states_possible
from lockkeeper.texts import book_text, read_book
from tests.asking import Asking
from tests.plain import OTHERS, hours_at, stands
from tests.plainkeepers import Plain
from tests.somebooks import BIG, LOCKS
from tests.test_keepers import deed_by_chance

PLACES = {"heard": 1, "level": 2, "marks": 3, "boats": 4, "passed": 5}
FIRST = "lock 4 2 1 2 clock 0 0 1 2 3 at 4 1 2"


def plain_right(book):
    number = first_wrong(book)
    return "yes" if number is None else f"wrong {number}"


def plain_possible(book, word, number):
    """The answer to a line on the STATES that are possible at an ENTRY."""
    sets = states_possible(book, number)
    if word == "states":
        return str(sum(many_stands(book[0], lot) for lot in sets))
    if not is_right(book):
        return "none"
    if word == "level":
        return " ".join(f"{low}:{high}" for low, high in may_levels(book, number))
    return " ".join(map(str, {"boats": may_boats, "hour": may_residues}[word](book, number)))


def plain_line(deed):
    """The line of a DEED."""
    if deed[0] in ("water", "upper", "lower"):
        return " ".join(map(str, deed))
    things, gap, heard, signs = deed
    words = ["write", *things] + (["gap", *map(str, gap)] if gap else []) + (["strokes", str(heard)] if heard is not None else [])
    return " ".join(words + (["signs", "".join(signs)] if signs else []))


class Both:
    """A DESK, a KEEPER that is led by the same DEEDS, and what is changed in the asked BOOK."""

    def __init__(self, chance):
        lock = chance.choice(LOCKS)
        clock = (tuple(chance.randrange(4) for _ in range(chance.randint(1, 4))), chance.randrange(2), chance.randrange(2))
        stand, residue = chance.choice(stands(lock)), chance.randrange(len(clock[0]))
        self.desk, self.keeper, self.changes = Desk(), Keeper(lock, clock, stand, residue), []
        words = ["lock", *lock, "clock", *clock[1:], *clock[0]] + ([] if (stand, residue) == ((0, 0), 0) else ["at", *stand, residue])
        assert self.desk.say(" ".join(map(str, words))) == "done"

    def book(self):
        lock, clock, entries = self.keeper.book()
        rows = [list(row) for row in entries]
        for number, at, worth in self.changes:
            rows[number][at] = worth
        return lock, clock, tuple(map(tuple, rows))


class Desks(Asking):

    def alike(self, both):
        desk, keeper = both.desk, both.keeper
        self.assertEqual(desk.keeper, keeper)
        self.told(" ".join(map(str, keeper.stand)), desk.say("stand"))
        self.told(str(keeper.residue), desk.say("hour"))
        many, marks, passed = keeper.since()
        self.told(" ".join(map(str, (many, *marks, *passed))), desk.say("since"))
        self.told(str(len(keeper.entries())), desk.say("written"))

    def asked_alike(self, chance, both):
        if not both.keeper.entries():
            for line in ("right", "level 0", "forget 0 level", "wide 0 0 0", "states 0"):
                self.told("no", both.desk.say(line))
            return
        book = both.book()
        self.told(plain_right(book), both.desk.say("right"))
        for word in ("level", "boats", "hour", "states"):
            number = chance.randrange(len(book[2]))
            self.told(plain_possible(book, word, number), both.desk.say(f"{word} {number}"))
            self.told("no", both.desk.say(f"{word} {len(book[2])}"))

    def change(self, chance, both):
        """A line "forget" or "wide"."""
        book = both.book()
        number = chance.randrange(len(book[2]) + 1)
        if chance.random() < 0.6:
            word = chance.choice(sorted(PLACES) + ["gap"])
            worth = "done" if number < len(book[2]) and word in PLACES else "no"
            self.told(worth, both.desk.say(f"forget {number} {word}"))
            if worth == "done":
                both.changes.append((number, PLACES[word], None))
            return
        least, most = chance.randrange(4), chance.choice((0, 1, 2, 5, 12, 13))
        gaps = [row[0][1] if at != number else most for at, row in enumerate(book[2]) if at]
        worth = "done" if 0 < number < len(book[2]) and least <= most <= 12 and sum(gaps) <= 24 else "no"
        self.told(worth, both.desk.say(f"wide {number} {least} {most}"))
        if worth == "done":
            both.changes.append((number, 0, (least, most)))

    def test_against_a_keeper(self):
        chance = random.Random(110)
        seen = {"changed": 0, "wrong": 0, "no": 0}
        for _ in range(60):
            both = Both(chance)
            for _ in range(30):
                kind = chance.random()
                keeper, plain = both.keeper, None
                if kind < 0.4:
                    deed = chance.choice(hours_at(keeper.lock, keeper.stand) + [("water", 9), ("upper", 2, 2)])
                elif kind < 0.65:
                    plain = Plain(keeper.lock, keeper.clock, (0, 0), 0)
                    plain.told = lambda keeper=keeper: (keeper.stand, keeper.residue, (None,) * keeper.since()[0], None, keeper.entries())
                    plain.since = keeper.since
                    deed = deed_by_chance(chance, plain, 0)
                    if chance.random() < 0.1:
                        deed = (deed[0], (0, 13), deed[2], deed[3])
                elif kind < 0.75 and len(keeper):
                    many = chance.randint(1, min(4, len(keeper)))
                    self.told("done", both.desk.say(f"back {many}"))
                    keeper.undo(many)
                    both.changes = []
                    continue
                elif kind < 0.9 and keeper.entries():
                    self.change(chance, both)
                    seen["changed"] += len(both.changes) > 0
                    self.asked_alike(chance, both)
                    seen["wrong"] += both.desk.say("right") != "yes"
                    continue
                else:
                    continue
                try:
                    (keeper.do(deed) if len(deed) < 4 else keeper.write(*deed))
                    worth = "done"
                    both.changes = both.changes if len(deed) < 4 else []
                except LockError:
                    worth = "no"
                    seen["no"] += 1
                self.told(worth, both.desk.say(plain_line(deed)))
                self.alike(both)
                if chance.random() < 0.3:
                    self.asked_alike(chance, both)
        self.assertGreater(min(seen["changed"], seen["no"]), 30)

    def test_what_is_answered(self):
        desk = Desk()
        self.assertIs(desk.keeper, None)
        for line in ("stand", "hour", "since", "written", "right", "water 0", "write", "back 1", "level 0", "forget 0 level"):
            self.told("no", desk.say(line))
        for line, answer in [
            (FIRST, "done"), ("stand", "4 1"), ("hour", "2"), ("since", "0 4 4 0 0 0 0"), ("written", "0"), ("right", "no"),
            ("write boats heard level strokes 3 signs ab", "done"), ("written", "1"), ("right", "yes"), ("upper 1 2", "done"), ("since", "1 4 4 2 1 0 0"),
            ("water 2", "no"), ("water 3", "done"), ("stand", "3 2"), ("hour", "1"), ("write marks passed gap 1 4", "done"), ("since", "0 3 3 0 0 0 0"),
            ("level 1", "3:4"), ("boats 1", "2"), ("hour 1", "0 1 2"), ("states 1", "5"), ("level 0", "4:4"), ("forget 0 level", "done"),
            ("level 0", "3:4"), ("level 1", "3:4"), ("wide 1 3 3", "done"), ("hour 1", "2"), ("forget 1 marks", "done"), ("forget 1 passed", "done"), ("level 1", "0:4"),
            ("states 1", "15"), ("wide 1 0 0", "done"), ("right", "yes"), ("level 1", "0:4"), ("forget 1 heard", "done"), ("back 3", "done"), ("written", "1"),
            ("level 0", "4:4"), ("forget 0 level", "done"), ("level 0", "0:4"), ("water 4", "done"), ("level 0", "0:4"), ("write gap 2 2", "no"), ("level 0", "0:4"),
            ("write gap 1 1", "done"), ("level 0", "4:4"), ("level 1", "3:4"), ("back 4", "no"), ("back 0", "no"), ("written", "2"),
        ]:
            self.told(answer, desk.say(line=line))
        self.assertEqual(len(desk.keeper), 3)

    def test_a_wrong_book(self):
        desk = Desk()
        for line in (FIRST, "write level", "water 3", "write level gap 1 1", "wide 1 0 0"):
            self.told("done", desk.say(line))
        self.told("wrong 1", desk.say("right"))
        for line, answer in [("level 0", "none"), ("boats 1", "none"), ("hour 0", "none"), ("states 1", "0")]:
            self.told(answer, desk.say(line))
        # An HOUR does not let the change go, a writing that cannot be done neither.
        for line, answer in [("water 3", "done"), ("write level gap 0 0", "no"), ("back 9", "no"), ("right", "wrong 1"), ("write gap 1 1", "done"), ("right", "yes")]:
            self.told(answer, desk.say(line))
        for line, answer in [("wide 1 0 0", "done"), ("right", "wrong 1"), ("back 1", "done"), ("right", "yes"), ("wide 1 0 0", "done"), ("lock 1", "no"), ("right", "wrong 1")]:
            self.told(answer, desk.say(line))
        for line, answer in [(FIRST, "done"), ("right", "no"), ("write", "done"), ("right", "yes"), ("written", "1")]:
            self.told(answer, desk.say(line))

    def test_what_is_no_line(self):
        desk = Desk()
        desk.say(FIRST)
        desk.say("write level")
        held = desk.keeper.copy()
        most = 10 ** 31
        for line in ["", " ", "stand ", " stand", "stand  ", "Stand", "stand 0", "hour  0", "hour 00", "hour 1 ", "hour -1", "hour 0 0", "since 0", "written 0", "right 0", "level", "boats",
                     "states", "level 1", "level a", "states 0 0", "water", "water 04", "water +4", "water 4 4", "water  4", "water 5", f"water {most}", "upper 0", "upper 0 0 0", "upper 2 0",
                     "lower 0 0", "write boats", "write boats gap", "write gap 0", "write gap 0 0 0", "write gap 1 1", "write gap 00 0", "write level boats gap 0 0",
                     "write boats boats gap 0 0", "write gap 0 0 strokes", "write gap 0 0 strokes 1", "write heard gap 0 0", "write heard strokes 3", "write heard gap 0 0 strokes 2",
                     "write heard strokes 3 gap 0 0", "write gap 0 0 signs", "write gap 0 0 signs ba", "write gap 0 0 signs abcd", "write gap 0 0 signs a b", "write gap 0 0 signs A", "write gap 0 0 sign ab", "write gap 0 0 a b", "write gap 0 0 stroke 1", "write wide 0 0",
                     "write signs a gap 0 0", "write gap 0 0 gap 0 0", "write water gap 0 0", "back", "back 0", "back 2", "back 01", "back 1 1", "back a", "forget", "forget 0", "forget level 0",
                     "forget 0 gap", "forget 0 signs", "forget 1 level", "forget 0 level level", "wide", "wide 0 0 0", "wide 1 0 0", "wide 0 0", "done", "no", "lock", "clock", "stand\n",
                     "lock 1 1 1 1", "lock 1 1 1 1 clock", "lock 1 1 1 1 clock 0 0", "lock 1 1 1 1 clock 0", "lock 1 1 1 clock 0 0 1", "lock 1 1 1 3 clock 0 0 1", "lock 1 0 1 1 clock 0 0 1",
                     "lock 1 1 1 1 clock 0 25 1", "lock 1 1 1 1 clock 0 0 25", "lock 1 1 1 1 clock 0 0" + " 1" * 13, "lock 1 1 1 1 clock 0 0 1 at 2 0 0", "lock 1 1 1 1 clock 0 0 1 at 0 2 0",
                     "lock 1 1 1 1 clock 0 0 1 at 0 0 1", "lock 1 1 1 1 clock 0 0 1 at 0 0", "lock 1 1 1 1 clock 0 0 1 at 0 0 0 0", "lock 1 1 1 1 clock 0 0 at 0 0 0", "lock 1 1 1 1 clock 0 0 1,2",
                     "lock 1 1 1 1 clock 0 0 01", f"lock {most} 1 1 1 clock 0 0 1", "lock 1 1 1 1 at 0 0 0 clock 0 0 1", "lock 1 1 1 1 clock 0 0 1 at 0 0 0 at 0 0 0"] + OTHERS:
            self.told("no", desk.say(line))
            self.assertEqual(desk.keeper, held)
            self.told("yes", desk.say("right"))
        self.told("2", desk.say("hour"))

    def test_new_keepers(self):
        for line, keeper in [
            ("lock 0 1 1 0 clock 0 0 1", Keeper((0, 1, 1, 0), ((1,), 0, 0))),
            (f"lock {BIG} {BIG} 1 2 clock 24 24" + " 24" * 12 + f" at {BIG} 2 11", Keeper((BIG, BIG, 1, 2), ((24,) * 12, 24, 24), (BIG, 2), 11)),
            ("lock 1 1 1 1 clock 3 4 5 6 at 0 0 0", Keeper((1, 1, 1, 1), ((5, 6), 3, 4))),
            ("lock 1 1 1 1 clock 0 0 1 2 3 4", Keeper((1, 1, 1, 1), ((1, 2, 3, 4), 0, 0))),
        ]:
            desk = Desk()
            self.told("done", desk.say(line))
            self.assertEqual(desk.keeper, keeper)

    def test_each_writing(self):
        for line, row in [("write", (None,) * 6 + ((),)), ("write boats", (None, None, None, None, 1, None, ())), ("write signs z", (None,) * 6 + (("z",),)),
                          ("write heard strokes 3", (None, 3, None, None, None, None, ())), ("write boats heard level strokes 3 signs acz", (None, 3, 4, None, 1, None, ("a", "c", "z")))]:
            desk = Desk()
            desk.say(FIRST)
            self.told("done", desk.say(line))
            self.told(row, desk.keeper.entries()[0])
        desk.say("water 4")
        self.told("done", desk.say("write boats heard level marks passed gap 0 12 strokes 1 signs b"))
        self.told(((0, 12), 1, 4, (4, 4), 1, (0, 0, 0, 0), ("b",)), desk.keeper.entries()[1])

    def test_the_very_keeper(self):
        desk = Desk()
        desk.say(FIRST)
        self.assertIs(desk.keeper, desk.keeper)
        desk.keeper.write(("level",))
        desk.keeper.do(("water", 3))
        self.told("3 1", desk.say("stand"))
        self.told("4:4", desk.say("level 0"))
        with desk.keeper.trial() as one:
            one.undo(2)
            self.told("0", desk.say("written"))
            self.told("no", desk.say("right"))
        self.told("1", desk.say("written"))
        self.told("no", desk.say("lock"))
        self.told("3 1", desk.say("stand"))

    def test_books_as_texts(self):
        desk = Desk()
        for line in (FIRST, "write boats heard level strokes 3 signs ab", "upper 1 2", "water 3", "write marks passed gap 1 4", "water 3", "write gap 0 12 strokes 9"):
            desk.say(line)
        text = book_text(desk.keeper.book())
        self.told("lock 4 2 1 2\nclock 1,2,3 0 0\n- 3 4 - 1 - ab\n1:4 - - 3:4 - 2.1.0.0 -", text)
        self.told(desk.keeper.book(), read_book(text))

    def test_many_states(self):
        desk = Desk()
        self.told("done", desk.say(f"lock {BIG} 1 1 2 clock 0 0 1 2"))
        self.told("done", desk.say("write"))
        self.told(str(6 * (BIG + 1)), desk.say("states 0"))
        self.told(f"0:{BIG}", desk.say("level 0"))

    def test_six_entries(self):
        desk = Desk()
        desk.say(FIRST)
        desk.say("write")
        for answer in ("done",) * 5 + ("no",):
            self.told(answer, desk.say("write gap 0 4"))
        self.told("6", desk.say("written"))
        self.told("done", desk.say("wide 5 0 8"))
        self.told("no", desk.say("wide 5 0 9"))
        self.told("done", desk.say("wide 5 8 8"))
        self.told("yes", desk.say("right"))


if __name__ == "__main__":
    unittest.main()
