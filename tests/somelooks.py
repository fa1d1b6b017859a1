"""LOOKS and MENUS by a chance that is the same each time."""

from tests.somebooks import BIG


def look_by_chance(chance, book):
    """A LOOK of the BOOK."""
    many = len(book[2])
    word = chance.choice(("level", "boats", "hour", "between", "between"))
    if word == "between" and many > 1:
        other = chance.randrange(1, many)
        return word, chance.randrange(other), other, chance.choice((0, 1, 2, 3, 5, BIG))
    if word == "hour":
        return word, chance.randrange(many), tuple(at for at in range(len(book[1][0])) if chance.random() < 0.5)
    return ("level", "boats")[chance.randrange(2)], chance.randrange(many), chance.choice((0, 1, 1, 2, 3, BIG))


def many_between(looks):
    """How many of LOOKS are "between"."""
    return sum(look[0] == "between" for look in looks)


def menu_by_chance(chance, book):
    """A MENU of the BOOK and a CLAIM beside it."""
    while True:
        looks = tuple(look_by_chance(chance, book) for _ in range(chance.randint(1, 4)))
        if many_between(looks) < 3:
            return looks[:-1], looks[-1]


def hours_by_chance(chance, book, number):
    """A MENU of LOOKS "hour" at one ENTRY, and a CLAIM that most often hangs on their ANSWERS alone."""
    residues = range(len(book[1][0]))
    menu = tuple(("hour", number, tuple(at for at in residues if chance.random() < 0.5)) for _ in range(chance.choice((0, 1, 2, 3, 3, 3))))
    worths = {}
    some = []
    for at in residues:
        answers = tuple(at in look[2] for look in menu)
        if worths.setdefault(answers, chance.random() < 0.5) is not (chance.random() < 0.03):
            some.append(at)
    return menu, ("hour", number, tuple(some))
