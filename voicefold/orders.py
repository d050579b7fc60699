"""Orders, ways and lots: tuples and lists of unlike options."""

from voicefold.ballots import are_unlike_options
from voicefold.errors import BadOrder
from voicefold.words import is_tuple_of


def is_order(options, thing):
    """Whether thing is a tuple of all options, each once."""
    return is_tuple_of(thing, len(options)) and are_unlike_options(options, thing)


def check_order(options, order):
    """Refuses with BadOrder what is no tuple of all options, each once."""
    if not is_order(options, order):
        raise BadOrder("an order is a tuple of all options, each once")


def order_of_ties(options, ties):
    """The order that ties tells: the options' own one where it is ()."""
    if is_tuple_of(ties, 0):
        return options
    check_order(options, ties)
    return ties


def full_ballot(order):
    """The ballot that ranks by an order: each option a tier of its own."""
    return "order", tuple([(name,) for name in order])


def is_way(options, thing, one, other):
    """Whether thing is a tuple of unlike options from one to other."""
    if not isinstance(thing, tuple) or len(thing) == 0 or not are_unlike_options(options, thing):
        return False
    return thing[0] == one and thing[-1] == other


def is_lot(options, thing):
    """Whether thing is a list of unlike options, one at least."""
    return isinstance(thing, list) and len(thing) > 0 and are_unlike_options(options, thing)


def steps_of(way):
    """The list of the tuples of each option of a way, and the one next behind it."""
    return list(zip(way, way[1:]))


def steps_out(options, lot):
    """The list of the tuples of an option in the lot, and one that is not in it."""
    return [(inner, outer) for inner in lot for outer in options if outer not in lot]
