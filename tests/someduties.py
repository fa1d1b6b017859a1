"""BOUNDS and DUTIES by a chance that is the same each time, and a BOOK with many SIGNS."""

from tests.somebooks import BIG, CLOCK, ONE, entry

# Six ENTRIES; a at 0, 2, 3; b at 1, 3, 5; both at 3.
SIGNED = (ONE, CLOCK, (
    entry(signs=("a",)), entry((0, 2), signs=("b",)), entry((1, 1), signs=("a", "c")), entry((0, 3), signs=("a", "b")),
    entry((0, 0)), entry((2, 4), signs=("b", "c", "z"))))


def bounds_by_chance(chance, many, longest=3):
    """So many BOUNDS or fewer of a BOOK with so many ENTRIES."""
    told = []
    for _ in range(chance.randrange(longest + 1) if many > 1 else 0):
        other = chance.randrange(1, many)
        least = chance.choice((0, 1, 2, 3, 4, 24))
        most = chance.choice((None, least, min(24, least + 1), min(24, least + 2)))
        told.append((chance.randrange(other), other, least, most))
    return tuple(told)


def most_running(bounds):
    """How many BOUNDS run from an ENTRY to the next one, at most."""
    return max([sum(one <= number < other for one, other, _, _ in bounds) for number in range(6)])


def duty_by_chance(chance):
    """A DUTY."""
    return (chance.choice("abc"), chance.choice("abc"), chance.choice((0, 1, 2, 3, 4, 24)), chance.choice(("within", "not before")))


def with_signs(chance, book):
    """The BOOK with SIGNS anyhow, so that DUTIES bind more often."""
    rows = [(*row[:6], tuple(sorted({chance.choice("abc") for _ in range(chance.randrange(4))}))) for row in book[2]]
    return book[0], book[1], tuple(rows)
