"""A KEEPER as a plain list of its DEEDS: all else is told by doing them again, straight by [84] and [85]."""

from tests.plain import after, hours_at, passed_after, same
from tests.plainbooks import is_int

WORDS = ("boats", "heard", "level", "marks", "passed")


class Plain:

    def __init__(self, lock, clock, stand=(0, 0), residue=0, deeds=()):
        self.lock, self.clock, self.first = lock, clock, (stand, residue)
        self.deeds = list(deeds)

    def told(self):
        """The STAND, the RESIDUE, the HOURS since the last writing, the STAND then, and (ENTRY, STATE, COURSE) of all writings."""
        stand, residue = self.first
        start, course, writings = stand, [], []
        for deed in self.deeds:
            if deed[0] in ("water", "upper", "lower"):
                stand, residue = after(stand, deed), (residue + 1) % len(self.clock[0])
                course.append(deed)
            else:
                things, gap, heard, signs = deed
                _, marks, passed = self.extent(start, course)
                row = [gap, heard, stand[0], marks, stand[1], passed, signs]
                for word, at in (("level", 2), ("marks", 3), ("boats", 4), ("passed", 5)):
                    if word not in things:
                        row[at] = None
                writings.append((tuple(row), (residue, stand), tuple(course)))
                start, course = stand, []
        return stand, residue, course, start, writings

    def extent(self, start, course):
        levels, passed, stand = [start[0]], (0, 0, 0, 0), start
        for hour in course:
            stand, passed = after(stand, hour), passed_after(passed, hour)
            levels.append(stand[0])
        return len(course), (min(levels), max(levels)), passed

    def since(self):
        _, _, course, start, _ = self.told()
        return self.extent(start, course)

    def entries(self):
        return tuple(row for row, _, _ in self.told()[4])

    def book(self):
        return (self.lock, self.clock, self.entries()) if self.entries() else None

    def states(self):
        return tuple(state for _, state, _ in self.told()[4])

    def history(self):
        writings = self.told()[4]
        return (*writings[0][1], tuple(course for _, _, course in writings[1:])) if writings else None

    def can_do(self, hour):
        return any(same(hour, one) for one in hours_at(self.lock, self.told()[0]))

    def wrong_part(self, things, gap, heard, signs):
        """The part of a writing that cannot be done, None if it can be; sentence by sentence."""
        _, residue, course, start, writings = self.told()
        (strokes, missed, added), first = self.clock, not writings
        many, _, passed = self.extent(start, course)
        if type(things) is not tuple or any(type(word) is not str or word not in WORDS for word in things) or list(things) != sorted(set(things)):
            return "things"
        if (first and {"marks", "passed"} & set(things)) or ("passed" in things and max(passed) > 2):
            return "things"
        if first:
            if gap is not None:
                return "gap"
        elif type(gap) is not tuple or len(gap) != 2 or not is_int(gap[0], 0, 12) or not is_int(gap[1], gap[0], 12) or not gap[0] <= many <= gap[1]:
            return "gap"
        if "heard" in things:
            if not is_int(heard, 0, 99) or not strokes[residue] - missed <= heard <= strokes[residue] + added:
                return "heard"
        elif heard is not None:
            return "heard"
        if type(signs) is not tuple or len(signs) > 3 or any(type(sign) is not str or len(sign) != 1 or not "a" <= sign <= "z" for sign in signs):
            return "signs"
        if list(signs) != sorted(set(signs)):
            return "signs"
        if len(writings) == 6:
            return "entries"
        gaps = [row[0][1] for row in self.entries()[1:]] + ([] if first else [gap[1]])
        return "hours" if sum(gaps) > 24 else None
