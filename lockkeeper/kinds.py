"""What kind a value is: these may be asked of any value at all."""


def is_integer(thing):
    """Whether it is an integer."""
    # To Python True and False are ints, to this package they are not.
    return isinstance(thing, int) and not isinstance(thing, bool)


def is_from(thing, least):
    """Whether it is an integer from the least one on."""
    return is_integer(thing) and thing >= least


def is_within(thing, least, greatest):
    """Whether it is an integer from the least to the greatest one."""
    return is_integer(thing) and least <= thing <= greatest


def is_tuple_of(thing, many):
    """Whether it is a tuple of so many things."""
    return isinstance(thing, tuple) and len(thing) == many


def is_worded(thing, word, many):
    """Whether it is a tuple of so many things with this word first."""
    return is_tuple_of(thing, many) and isinstance(thing[0], str) and thing[0] == word


def is_ascending(things):
    """Whether each is greater than the one ahead; only of things that can be compared."""
    return all([things[at - 1] < things[at] for at in range(1, len(things))])


def are_up_to(things, greatest):
    """Whether it is a tuple of as many integers as there are greatest ones, each from 0 to its own."""
    if not is_tuple_of(things, len(greatest)):
        return False
    return all([is_within(thing, 0, most) for thing, most in zip(things, greatest)])
