"""KEEPERS: live ones, who do HOURS and writings one behind another."""

from lockkeeper.books import are_signs, first_beyond
from lockkeeper.clocks import behind_hours, fits, is_gap, is_residue, need_clock
from lockkeeper.courses import passed_by
from lockkeeper.errors import BadDeed, BadHour, BadNumber, BadStand, Nothing
from lockkeeper.kinds import is_ascending, is_integer, is_within
from lockkeeper.locks import is_hour_at, is_stand, need_lock, stand_behind

THINGS = ("boats", "heard", "level", "marks", "passed")

# A stage is how a KEEPER is behind some DEEDS: a tuple of the STAND, of the RESIDUE, of how many HOURS there are since
# the writing ahead, of their MARKS, of their PASSED, and of the writings: triples of how many DEEDS were ahead, of the
# ENTRY, of the STATE.


def stage_at(stand, residue, writings):
    """The stage at the beginning, or straight behind a writing."""
    return stand, residue, 0, (stand[0], stand[0]), (0, 0, 0, 0), writings


def stage_behind(clock, stage, hour):
    """The stage behind an HOUR."""
    stand, residue, many, marks, passed, writings = stage
    further = stand_behind(stand, hour)
    reach = (min(marks[0], further[0]), max(marks[1], further[0]))
    total = tuple([before + now for before, now in zip(passed, passed_by((hour,)))])
    return further, behind_hours(clock, residue, 1), many + 1, reach, total, writings


def are_things(thing):
    """Whether any value is an ascending tuple of some of the five words."""
    if not isinstance(thing, tuple) or not all([isinstance(word, str) and word in THINGS for word in thing]):
        return False
    return is_ascending(thing)


def can_things_be(stage, things):
    """Whether any value is THINGS that can be written at a stage."""
    if not are_things(things):
        return False
    if not stage[5] and ("marks" in things or "passed" in things):
        return False
    return "passed" not in things or max(stage[4]) <= 2


def can_gap_be(stage, gap):
    """Whether any value is a GAP with which something can be written at a stage."""
    if not stage[5]:
        return gap is None
    return is_gap(gap) and gap[0] <= stage[2] <= gap[1]


def can_be_heard(clock, stage, things, heard):
    """Whether any value is HEARD as THINGS ask for it."""
    if "heard" not in things:
        return heard is None
    # What fits is from 0 to 99, too.
    return is_integer(heard) and fits(clock, heard, stage[1])


def need_deed(clock, stage, deed):
    """Refuses what is no writing that can be done at a stage, how many ENTRIES there are not being asked."""
    things, gap, heard, signs = deed
    if not can_things_be(stage, things):
        raise BadDeed("things")
    if not can_gap_be(stage, gap):
        raise BadDeed("gap")
    if not can_be_heard(clock, stage, things, heard):
        raise BadDeed("heard")
    if not are_signs(signs):
        raise BadDeed("signs")


def entry_by(stage, deed):
    """The ENTRY that a writing makes at a stage."""
    things, gap, heard, signs = deed
    stand, _, _, marks, passed, _ = stage
    worths = {"level": stand[0], "marks": marks, "boats": stand[1], "passed": passed}
    written = {word: worths[word] if word in things else None for word in worths}
    return gap, heard, written["level"], written["marks"], written["boats"], written["passed"], signs


class Trial:
    """A trial of a KEEPER: behind its block the KEEPER is as it was when the block began."""

    def __init__(self, keeper):
        self._keeper = keeper
        self._deeds = []
        self._stages = []

    def __enter__(self):
        """The KEEPER."""
        self._deeds = list(self._keeper._deeds)
        self._stages = list(self._keeper._stages)
        return self._keeper

    def __exit__(self, kind, value, trace):
        """Takes back all that was done in the block, however it ends."""
        self._keeper._deeds = self._deeds
        self._keeper._stages = self._stages


class Keeper:
    """A KEEPER: it does DEEDS, one behind another."""

    def __init__(self, lock, clock, stand=(0, 0), residue=0):
        need_lock(lock)
        need_clock(clock)
        if not is_stand(lock, stand):
            raise BadStand(stand)
        if not is_residue(clock, residue):
            raise BadNumber(residue)
        self._lock = lock
        self._clock = clock
        self._deeds = []
        # One stage for the beginning and one for each DEED.
        self._stages = [stage_at(stand, residue, ())]

    @property
    def lock(self):
        """The LOCK."""
        return self._lock

    @property
    def clock(self):
        """The CLOCK."""
        return self._clock

    @property
    def stand(self):
        """The STAND as it is now."""
        return self._stages[-1][0]

    @property
    def residue(self):
        """The RESIDUE as it is now."""
        return self._stages[-1][1]

    def __len__(self):
        """How many DEEDS there are."""
        return len(self._deeds)

    def __eq__(self, other):
        """Whether the other one is a KEEPER that began the same and did the same."""
        return (isinstance(other, Keeper) and self._lock == other._lock and self._clock == other._clock
                and self._stages[0] == other._stages[0] and self._deeds == other._deeds)

    def do(self, hour):
        """Does an HOUR."""
        stage = self._stages[-1]
        if not is_hour_at(self._lock, stage[0], hour):
            raise BadHour(hour)
        self._stages.append(stage_behind(self._clock, stage, hour))
        self._deeds.append(hour)

    def write(self, things, gap=None, heard=None, signs=()):
        """Does a writing, and tells the ENTRY."""
        stage = self._stages[-1]
        deed = (things, gap, heard, signs)
        need_deed(self._clock, stage, deed)
        entry = entry_by(stage, deed)
        entries = self.entries() + (entry,)
        if len(entries) > 6:
            raise BadDeed("entries")
        if first_beyond(entries) is not None:
            raise BadDeed("hours")
        stand, residue, _, _, _, writings = stage
        writing = (len(self._deeds), entry, (residue, stand))
        self._stages.append(stage_at(stand, residue, writings + (writing,)))
        self._deeds.append(deed)
        return entry

    def since(self):
        """The triple of how many HOURS there are since the last writing, of their MARKS, of their PASSED."""
        return self._stages[-1][2:5]

    def entries(self):
        """The tuple of all ENTRIES."""
        return tuple([entry for _, entry, _ in self._stages[-1][5]])

    def need_writings(self):
        """The writings, if there are any."""
        writings = self._stages[-1][5]
        if not writings:
            raise Nothing(0)
        return writings

    def book(self):
        """The BOOK."""
        self.need_writings()
        return self._lock, self._clock, self.entries()

    def history(self):
        """The HISTORY."""
        writings = self.need_writings()
        courses = []
        for at in range(1, len(writings)):
            courses.append(tuple(self._deeds[writings[at - 1][0] + 1:writings[at][0]]))
        residue, stand = writings[0][2]
        return residue, stand, tuple(courses)

    def states(self):
        """The tuple of the STATES at all writings."""
        return tuple([state for _, _, state in self.need_writings()])

    def undo(self, many=1):
        """Takes the last DEEDS back."""
        if not is_within(many, 1, len(self._deeds)):
            raise BadNumber(many)
        del self._deeds[-many:]
        del self._stages[-many:]

    def copy(self):
        """A KEEPER with the same, that goes on by itself."""
        stand, residue = self._stages[0][:2]
        other = Keeper(self._lock, self._clock, stand, residue)
        other._deeds = list(self._deeds)
        other._stages = list(self._stages)
        return other

    def trial(self):
        """What gives the KEEPER to a with statement, behind which it is as it was."""
        return Trial(self)


def under(manager, deed):
    """What the deed tells of what the manager gives; None if an error that it raised goes no further."""
    with manager as one:
        return deed(one)
    return None
