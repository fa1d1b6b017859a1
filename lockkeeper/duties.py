"""Whether BOUNDS can be kept at once, how DUTIES stand, and PAPERS on both."""

from lockkeeper.bookpapers import has_any, layer_on, roads_of, suiting_at
from lockkeeper.books import need_book
from lockkeeper.dutypapers import (
    bounds_by, contrary_of, counting, is_duty, need_bounds, need_duty, need_few)
from lockkeeper.errors import BadDuty
from lockkeeper.histories import history_in, need_right


def counted_layers(book, roads, bounds):
    """The list of layers of COUNTS and SETS at the ENTRIES, up to the first one that is empty, if any is."""
    suits = suiting_at(book, 0)
    layers = [{(0,) * len(bounds): suits} if has_any(suits) else {}]
    for number in range(1, len(book[2])):
        if layers[-1]:
            layers.append(layer_on(book, roads[number], number, layers[-1], counting(bounds)))
    return layers


def history_keeping(book, roads, bounds, layers):
    """A HISTORY that agrees and keeps all BOUNDS, by their layers; None if there is none."""
    return history_in(book, roads, layers, counting(bounds)) if layers[-1] else None


def rolls_by(layers):
    """The ROLLS of layers."""
    return tuple([tuple([(counts, layer[counts]) for counts in sorted(layer)]) for layer in layers])


def need_well(book, bounds):
    """The ROADS of a right BOOK, if these are BOUNDS of it that can be dealt with."""
    need_bounds(book, bounds)
    need_few(book, bounds)
    roads = roads_of(book)
    need_right(book, roads)
    return roads


def can_be_kept(book, roads, bounds):
    """As at_once, of arguments that are known to be such, by the ROADS of the BOOK."""
    return counted_layers(book, roads, bounds)[-1] != {}


def at_once(book, bounds):
    """Whether the BOUNDS can be kept at once."""
    return can_be_kept(book, need_well(book, bounds), bounds)


def bounds_paper(book, bounds):
    """A PAPER on the BOUNDS."""
    roads = need_well(book, bounds)
    layers = counted_layers(book, roads, bounds)
    if layers[-1]:
        return "kept", history_keeping(book, roads, bounds, layers)
    return "clash", rolls_by(layers)


def need_duty_well(book, duty):
    """The ROADS of a right BOOK, if this is a DUTY."""
    need_book(book)
    need_duty(duty)
    roads = roads_of(book)
    need_right(book, roads)
    return roads


def contraries_of(bounds):
    """The list of the CONTRARIES, None where there is none."""
    return [contrary_of(bound) for bound in bounds]


def standing_of(book, duty):
    """How the DUTY stands: "kept", "broken" or "open"."""
    roads = need_duty_well(book, duty)
    bounds = bounds_by(book, duty)
    if not can_be_kept(book, roads, bounds):
        return "broken"
    for contrary in contraries_of(bounds):
        if contrary is not None and can_be_kept(book, roads, (contrary,)):
            return "open"
    return "kept"


def contrary_layers(book, roads, bounds):
    """For each BOUND the layers of its CONTRARY, () where there is none."""
    told = []
    for contrary in contraries_of(bounds):
        told.append(() if contrary is None else counted_layers(book, roads, (contrary,)))
    return told


def duty_paper(book, duty):
    """A PAPER on the DUTY."""
    roads = need_duty_well(book, duty)
    bounds = bounds_by(book, duty)
    layers = counted_layers(book, roads, bounds)
    if not layers[-1]:
        return "broken", rolls_by(layers)
    others = contrary_layers(book, roads, bounds)
    for contrary, other in zip(contraries_of(bounds), others):
        if contrary is not None and other[-1]:
            history = history_keeping(book, roads, bounds, layers)
            return "open", history, history_keeping(book, roads, (contrary,), other)
    return "kept", tuple([rolls_by(other) for other in others])


def need_duties(thing):
    """The thing itself, if it is DUTIES."""
    if not isinstance(thing, tuple) or not 1 <= len(thing) <= 2:
        raise BadDuty(thing)
    for duty in thing:
        if not is_duty(duty):
            raise BadDuty(duty)
    return thing


def all_at_once(book, duties):
    """Whether the DUTIES can be kept at once."""
    need_book(book)
    need_duties(duties)
    roads = roads_of(book)
    need_right(book, roads)
    bounds = [bound for duty in duties for bound in bounds_by(book, duty)]
    return can_be_kept(book, roads, tuple(bounds))
