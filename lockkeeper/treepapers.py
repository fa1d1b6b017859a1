"""TREES, and the check of the PAPERS on whether some TREE settles a CLAIM."""

from lockkeeper.bookpapers import does_agree_with, is_layer_within, layer_on, roads_of
from lockkeeper.books import need_book
from lockkeeper.clocks import is_residue
from lockkeeper.errors import BadAnswers, BadPaper, BadTree
from lockkeeper.kinds import is_ascending, is_tuple_of, is_within, is_worded
from lockkeeper.looks import look_by, need_claim, need_menu
from lockkeeper.marks import first_layer, looked_at, marking
from lockkeeper.stretches import empty_lot, is_lot


def is_tree(menu, thing, deepest):
    """Whether any value is a TREE of the MENU that is at most so deep."""
    if isinstance(thing, bool):
        return True
    if deepest == 1 or not is_tuple_of(thing, 3) or not is_within(thing[0], 0, len(menu) - 1):
        return False
    return is_tree(menu, thing[1], deepest - 1) and is_tree(menu, thing[2], deepest - 1)


def need_given_tree(menu, thing):
    """Refuses what is no TREE of the MENU."""
    if not is_tree(menu, thing, 4):
        raise BadTree(thing)


def need_tree(book, menu, thing):
    """The thing itself, if it is a TREE of the MENU."""
    need_book(book)
    need_menu(book, menu)
    need_given_tree(menu, thing)
    return thing


def end_of_tree(tree, answers):
    """To what a TREE comes by ANSWERS, or by what stands for them in TOLD."""
    while not isinstance(tree, bool):
        number, yes, no = tree
        tree = yes if answers[number] else no
    return tree


def comes_to(book, menu, tree, answers):
    """To what the TREE comes by ANSWERS."""
    need_tree(book, menu, tree)
    if not is_tuple_of(answers, len(menu)) or not all([isinstance(answer, bool) for answer in answers]):
        raise BadAnswers(answers)
    return end_of_tree(tree, answers)


def is_told(look, number, told, since):
    """Whether any values can stand for a LOOK in TOLD and SINCE of a KEY of an ENTRY."""
    is_counted = look[0] == "between"
    if (look[2] if is_counted else look[1]) <= number:
        return is_within(told, 0, 1) and is_within(since, -1, -1)
    if is_counted and look[1] <= number:
        return is_within(told, 2, 2) and is_within(since, 0, look[3])
    return is_within(told, 2, 2) and is_within(since, -1, -1)


def is_key(book, looks, number, thing):
    """Whether any value is a KEY of an ENTRY."""
    if not is_tuple_of(thing, 3) or not is_residue(book[1], thing[0]):
        return False
    _, told, since = thing
    if not is_tuple_of(told, len(looks)) or not is_tuple_of(since, len(looks)):
        return False
    return all([is_told(look, number, told[at], since[at]) for at, look in enumerate(looks)])


def is_marked(book, looks, number, thing):
    """Whether any value is a pair (KEY, LOT) of MARKED SETS of an ENTRY."""
    if not is_tuple_of(thing, 2) or not is_key(book, looks, number, thing[0]):
        return False
    return is_lot(book[0], thing[1]) and any(thing[1])


def are_marked(book, looks, number, thing):
    """Whether any value is MARKED SETS of an ENTRY."""
    if not isinstance(thing, tuple) or len(thing) > 2000:
        return False
    return all([is_marked(book, looks, number, row) for row in thing]) and is_ascending([row[0] for row in thing])


def layer_of(book, rows):
    """The layer of MARKED SETS."""
    layer = {}
    for (residue, told, since), lot in rows:
        layer.setdefault((told, since), [empty_lot(book[0])] * len(book[1][0]))[residue] = lot
    return {key: tuple(layer[key]) for key in layer}


def are_all_marked(book, looks, tables):
    """Whether any value is a tuple of MARKED SETS of all ENTRIES that have all that the paper asks for."""
    if not is_tuple_of(tables, len(book[2])):
        return False
    if not all([are_marked(book, looks, number, rows) for number, rows in enumerate(tables)]):
        return False
    roads = roads_of(book)
    led = first_layer(book, looks)
    for number, rows in enumerate(tables):
        held = layer_of(book, rows)
        if number > 0:
            led = layer_on(book, roads[number], number, layer_of(book, tables[number - 1]), marking(looks))
        if not is_layer_within(looked_at(led, looks, number), held):
            return False
    return True


def does_tree_tell(tree, told):
    """Whether a TREE comes to what the CLAIM is by the TOLD of a KEY of the last ENTRY."""
    return end_of_tree(tree, told) == (told[-1] == 1)


def holds_tree(book, menu, claim, paper):
    """Whether a PAPER ("tree", TREE, TABLES) holds."""
    _, tree, tables = paper
    if not is_tree(menu, tree, 4) or not are_all_marked(book, menu + (claim,), tables):
        return False
    return all([does_tree_tell(tree, key[1]) for key, _ in tables[-1]])


def holds_alike(book, menu, claim, paper):
    """Whether a PAPER ("alike", ONE, OTHER) holds."""
    _, one, other = paper
    if not does_agree_with(book, one) or not does_agree_with(book, other):
        return False
    if not look_by(book, one, claim) or look_by(book, other, claim):
        return False
    return all([look_by(book, one, look) == look_by(book, other, look) for look in menu])


def check_looks(book, menu, claim, paper):
    """The word of a PAPER on whether some TREE settles the CLAIM that holds."""
    need_book(book)
    need_menu(book, menu)
    need_claim(book, menu, claim)
    if is_worded(paper, "tree", 3):
        if not holds_tree(book, menu, claim, paper):
            raise BadPaper("tree")
        return "tree"
    if is_worded(paper, "alike", 3):
        if not holds_alike(book, menu, claim, paper):
            raise BadPaper("alike")
        return "alike"
    raise BadPaper("form")
