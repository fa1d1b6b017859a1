"""ANSWERS of all HISTORIES, how CLAIMS stand, TREES that settle them, and PAPERS on that."""

from lockkeeper.bookpapers import roads_of
from lockkeeper.books import need_book
from lockkeeper.histories import history_to, need_right
from lockkeeper.looks import need_claim, need_menu
from lockkeeper.marks import layers_by, marked_by, marking
from lockkeeper.treepapers import does_tree_tell, need_given_tree

# Rows are here the TOLD of HISTORIES at the last ENTRY: 1 or 0 for each LOOK of the MENU and, last, for the CLAIM.


def rows_by(layers):
    """The ascending list of all rows that the last layer has."""
    return sorted([told for told, _ in layers[-1]])


def layers_with(book, looks):
    """The pair of the ROADS and the layers at all ENTRIES of a right BOOK."""
    roads = roads_of(book)
    need_right(book, roads)
    return roads, layers_by(book, roads, looks)


def rows_with(book, looks):
    """The ascending list of all rows of HISTORIES that agree with a right BOOK."""
    return rows_by(layers_with(book, looks)[1])


def need_asked(book, menu, claim):
    """Refuses what are no BOOK, no MENU, no CLAIM."""
    need_book(book)
    need_menu(book, menu)
    need_claim(book, menu, claim)


def all_answers(book, menu):
    """The ascending tuple of the ANSWERS of all HISTORIES that agree."""
    need_book(book)
    need_menu(book, menu)
    return tuple([tuple([worth == 1 for worth in row]) for row in rows_with(book, menu)])


def claim_word(book, claim):
    """How the CLAIM stands: "sure", "never" or "open"."""
    need_asked(book, (), claim)
    rows = rows_with(book, (claim,))
    if len(rows) == 2:
        return "open"
    return "sure" if rows[0][0] == 1 else "never"


def settles(book, menu, claim, tree):
    """Whether the TREE settles the CLAIM."""
    need_asked(book, menu, claim)
    need_given_tree(menu, tree)
    return all([does_tree_tell(tree, row) for row in rows_with(book, menu + (claim,))])


def is_settled(rows):
    """Whether the CLAIM is the same by all rows."""
    return all([row[-1] == rows[0][-1] for row in rows])


def parts_by(rows, number):
    """The pair of the rows by which the LOOK with the number is True, and of those by which it is False."""
    return [row for row in rows if row[number] == 1], [row for row in rows if row[number] == 0]


def depth_by(rows, number):
    """How deep a TREE must be that asks first for the LOOK with the number, less 1; None if it settles nothing."""
    yes, no = parts_by(rows, number)
    if not yes or not no:
        # A LOOK that is the same by all rows tells nothing.
        return None
    depths = [depth_of(yes), depth_of(no)]
    return None if None in depths else 1 + max(depths)


def depth_of(rows):
    """The least D such that a TREE that is D + 1 deep settles the CLAIM of these rows, None if none does."""
    if is_settled(rows):
        return 0
    depths = [depth_by(rows, number) for number in range(len(rows[0]) - 1)]
    return min([depth for depth in depths if depth is not None], default=None)


def firsts_of(rows):
    """The list of the numbers of the LOOKS for which a TREE that is no deeper than it must be can ask first."""
    least = depth_of(rows)
    if least in (0, None):
        return []
    return [number for number in range(len(rows[0]) - 1) if depth_by(rows, number) == least]


def tree_of(rows):
    """A TREE that settles the CLAIM of rows of which some TREE does."""
    if is_settled(rows):
        return rows[0][-1] == 1
    number = firsts_of(rows)[0]
    yes, no = parts_by(rows, number)
    return number, tree_of(yes), tree_of(no)


def depth(book, menu, claim):
    """The DEPTH, or None."""
    need_asked(book, menu, claim)
    return depth_of(rows_with(book, menu + (claim,)))


def first_looks(book, menu, claim):
    """The ascending tuple of the numbers for which TREES that are DEPTH + 1 deep can ask first."""
    need_asked(book, menu, claim)
    return tuple(firsts_of(rows_with(book, menu + (claim,))))


def is_enough(rows, numbers):
    """Whether a TREE with these numbers alone settles the CLAIM of the rows."""
    worths = {}
    for row in rows:
        if worths.setdefault(tuple([row[number] for number in numbers]), row[-1]) != row[-1]:
            return False
    return True


def is_scant(rows, numbers):
    """Whether a tuple of numbers is scant."""
    fewer = [numbers[:at] + numbers[at + 1:] for at in range(len(numbers))]
    return is_enough(rows, numbers) and not any([is_enough(rows, less) for less in fewer])


def tuples_below(many):
    """The list of all ascending tuples of integers from 0 on that are less than this one."""
    tuples = [()]
    for number in range(many):
        tuples = tuples + [numbers + (number,) for numbers in tuples]
    return tuples


def scant_lots(book, menu, claim):
    """The ascending tuple of all scant tuples."""
    need_asked(book, menu, claim)
    rows = rows_with(book, menu + (claim,))
    return tuple(sorted([numbers for numbers in tuples_below(len(menu)) if is_scant(rows, numbers)]))


def untold(looks):
    """A function of the number of an ENTRY and a KEY there: the KEY as it is before the LOOKS at the STATE are told."""
    def bare_key(number, key):
        """This KEY."""
        told = []
        for look, worth in zip(looks, key[0]):
            told.append(2 if look[0] != "between" and look[1] == number else worth)
        return tuple(told), key[1]
    return bare_key


def alike_pair(rows):
    """The pair of two rows that are the same but for the CLAIM, which is True by the first one."""
    for row in rows:
        other = row[:-1] + (0,)
        if row[-1] == 1 and other in rows:
            return row, other
    return None


def look_paper(book, menu, claim):
    """A PAPER on whether some TREE settles the CLAIM."""
    need_asked(book, menu, claim)
    looks = menu + (claim,)
    roads, layers = layers_with(book, looks)
    pair = alike_pair(rows_by(layers))
    if pair is None:
        return "tree", tree_of(rows_by(layers)), tuple([marked_by(layer) for layer in layers])
    since = (-1,) * len(looks)
    one, other = [history_to(book, roads, layers, (told, since), marking(looks), untold(looks)) for told in pair]
    return "alike", one, other
