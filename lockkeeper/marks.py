"""MARKED SETS: which KEYS, with which STANDS, HISTORIES have at the ENTRIES."""

from lockkeeper.bookpapers import has_any, layer_on, road_at, suiting_at
from lockkeeper.books import need_book, need_number
from lockkeeper.errors import TooMany
from lockkeeper.looks import need_claim, need_menu
from lockkeeper.stretches import clipped

# A layer has here KEYS but for their RESIDUES: pairs (TOLD, SINCE).


def first_key(looks):
    """The pair (TOLD, SINCE) as it is ahead of all ENTRIES."""
    return (2,) * len(looks), (-1,) * len(looks)


def mark_between(look, number, told, since, hours):
    """The pair of what stands in TOLD and in SINCE for a LOOK "between", HOURS behind the ENTRY ahead."""
    _, one, other, least = look
    if number == one:
        return told, 0
    if not one < number <= other:
        return told, since
    count = min(least, since + hours)
    if number == other:
        return (1 if count >= least else 0), -1
    return told, count


def marking(looks):
    """A function of the number of an ENTRY, of a pair (TOLD, SINCE) at the one ahead, and of HOURS: the pair then.

    Of LOOKS at the STATE it tells nothing yet.
    """
    def marks_behind(number, key, hours):
        """The pair behind these."""
        pairs = []
        for look, told, since in zip(looks, key[0], key[1]):
            is_counted = look[0] == "between"
            pairs.append(mark_between(look, number, told, since, hours) if is_counted else (told, since))
        return tuple([pair[0] for pair in pairs]), tuple([pair[1] for pair in pairs])
    return marks_behind


def lot_by_look(lot, residue, look):
    """Of a LOT at a RESIDUE the STANDS by which a LOOK at the STATE is True."""
    word, _, asked = look
    if word == "hour":
        return lot if residue in asked else ((),) * len(lot)
    if word == "boats":
        return tuple([part if boats >= asked else () for boats, part in enumerate(lot)])
    # No level is greater than the last one of the last stretch.
    return tuple([clipped(part, asked, part[-1][1]) if part else () for part in lot])


def lot_against_look(lot, residue, look):
    """Of a LOT at a RESIDUE the STANDS by which a LOOK at the STATE is False."""
    word, _, asked = look
    if word == "hour":
        return lot if residue not in asked else ((),) * len(lot)
    if word == "boats":
        return tuple([part if boats < asked else () for boats, part in enumerate(lot)])
    return tuple([clipped(part, 0, asked - 1) for part in lot])


def split_layer(layer, at, look):
    """A layer with each of its SETS split by a LOOK at the STATE, the one with this place in TOLD."""
    further = {}
    for told, since in layer:
        sets = layer[(told, since)]
        well = tuple([lot_by_look(lot, residue, look) for residue, lot in enumerate(sets)])
        ill = tuple([lot_against_look(lot, residue, look) for residue, lot in enumerate(sets)])
        for worth, part in ((1, well), (0, ill)):
            if has_any(part):
                further[(told[:at] + (worth,) + told[at + 1:], since)] = part
    return further


def looked_at(layer, looks, number):
    """A layer at an ENTRY with all LOOKS at the STATE there told."""
    for at, look in enumerate(looks):
        if look[0] != "between" and look[1] == number:
            layer = split_layer(layer, at, look)
    return layer


def many_keys(layer):
    """How many KEYS a layer has."""
    return sum([len([lot for lot in layer[key] if any(lot)]) for key in layer])


def first_layer(book, looks):
    """The layer at the first ENTRY, before LOOKS at the STATE are told."""
    suits = suiting_at(book, 0)
    key = marking(looks)(0, first_key(looks), 0)
    return {key: suits} if has_any(suits) else {}


def layers_by(book, roads, looks):
    """The list of the layers at the ENTRIES, by HISTORIES that agree with the BOOK of the ENTRIES up to each one.

    There are as many of them as ROADS.
    """
    layers = [looked_at(first_layer(book, looks), looks, 0)]
    for number in range(1, len(roads)):
        led = layer_on(book, roads[number], number, layers[-1], marking(looks))
        layers.append(looked_at(led, looks, number))
        if many_keys(layers[-1]) > 2000:
            raise TooMany(2000)
    return layers


def marked_by(layer):
    """The MARKED SETS of a layer."""
    rows = []
    for told, since in layer:
        for residue, lot in enumerate(layer[(told, since)]):
            if any(lot):
                rows.append(((residue, told, since), lot))
    return tuple(sorted(rows))


def marked_at(book, menu, claim, number):
    """The MARKED SETS with just the KEYS with STANDS that HISTORIES have at the ENTRY."""
    need_book(book)
    need_menu(book, menu)
    need_claim(book, menu, claim)
    need_number(book, number)
    known = {}
    roads = [None] + [road_at(book, at, known) for at in range(1, number + 1)]
    return marked_by(layers_by(book, roads, menu + (claim,))[number])
