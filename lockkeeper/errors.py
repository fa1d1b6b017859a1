"""The errors of the package, each with what it was made of as its fields."""


class LockError(ValueError):
    """What is refused."""


class BadLock(LockError):
    """No LOCK, or this part of it is not as told."""

    def __init__(self, part):
        self.part = part


class BadStand(LockError):
    """No STAND of the LOCK."""

    def __init__(self, given):
        self.given = given


class BadHour(LockError):
    """No HOUR at the STAND."""

    def __init__(self, given):
        self.given = given


class BadCourse(LockError):
    """No COURSE: this HOUR of it is none there; None if it is no tuple of HOURS."""

    def __init__(self, number):
        self.number = number


class BadWants(LockError):
    """No WANTS, or this part of them is not as told."""

    def __init__(self, part):
        self.part = part


class BadWay(LockError):
    """No WAY: this LEG of it is none there; None if it is no tuple of LEGS."""

    def __init__(self, number):
        self.number = number


class BadKnot(LockError):
    """No KNOT of the WANTS."""

    def __init__(self, given):
        self.given = given


class BadLot(LockError):
    """No LOT of the LOCK."""

    def __init__(self, given):
        self.given = given


class BadNumber(LockError):
    """No number as it is told for its place."""

    def __init__(self, given):
        self.given = given


class BadPaper(LockError):
    """A paper that does not hold."""

    def __init__(self, part):
        self.part = part


class BadClock(LockError):
    """No CLOCK, or this part of it is not as told."""

    def __init__(self, part):
        self.part = part


class BadToll(LockError):
    """No TOLLS, or this part of them is not as told."""

    def __init__(self, part):
        self.part = part


class BadBook(LockError):
    """No BOOK: the place of what is not as told."""

    def __init__(self, place):
        self.place = place


class BadHistory(LockError):
    """No HISTORY of the BOOK, or this part of it is not as told."""

    def __init__(self, part):
        self.part = part


class BadState(LockError):
    """No STATE of the BOOK."""

    def __init__(self, given):
        self.given = given


class BadSets(LockError):
    """No SETS of the BOOK."""

    def __init__(self, given):
        self.given = given


class BadBound(LockError):
    """No BOUND of the BOOK, or no BOUNDS."""

    def __init__(self, given):
        self.given = given


class BadDuty(LockError):
    """No DUTY, or no DUTIES."""

    def __init__(self, given):
        self.given = given


class BadGap(LockError):
    """No GAP."""

    def __init__(self, given):
        self.given = given


class BadBunch(LockError):
    """No BUNCH of the BOOK."""

    def __init__(self, given):
        self.given = given


class BadNote(LockError):
    """No NOTE of the BOOK."""

    def __init__(self, given):
        self.given = given


class BadLook(LockError):
    """No LOOK of the BOOK, or no MENU."""

    def __init__(self, given):
        self.given = given


class BadTree(LockError):
    """No TREE of the MENU."""

    def __init__(self, given):
        self.given = given


class BadAnswers(LockError):
    """No ANSWERS to the MENU."""

    def __init__(self, given):
        self.given = given


class BadRounds(LockError):
    """No ROUNDS of the BOOK, or this part of them is not as told."""

    def __init__(self, part):
        self.part = part


class BadTask(LockError):
    """No TASK, or this part of it is not as told."""

    def __init__(self, part):
        self.part = part


class BadPlan(LockError):
    """No PLAN: this pair of it is none, or cannot be done."""

    def __init__(self, number):
        self.number = number


class BadCase(LockError):
    """No CASE, or no BINDER."""

    def __init__(self, given):
        self.given = given


class BadEntry(LockError):
    """Nothing that a row can write."""

    def __init__(self, given):
        self.given = given


class BadDeed(LockError):
    """A writing that cannot be done: this part of it is why."""

    def __init__(self, part):
        self.part = part


class BadText(LockError):
    """A text that cannot be read: the place of what is wrong."""

    def __init__(self, line, word):
        self.line = line
        self.word = word


class Wrong(ValueError):
    """A BOOK that is not right: the number of its first wrong ENTRY."""

    def __init__(self, number):
        self.number = number


class Nothing(LookupError):
    """There is none of what was asked for."""

    def __init__(self, given):
        self.given = given


class TooMany(OverflowError):
    """There are more than the most that can be dealt with."""

    def __init__(self, most):
        self.most = most
