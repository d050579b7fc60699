"""Polls of margins: voices that come to just the margins told."""

from itertools import combinations

from voicefold.ballots import are_options, are_unlike_options
from voicefold.errors import BadMargins, BadPoll
from voicefold.orders import full_ballot
from voicefold.polls import Poll
from voicefold.words import is_tuple_of, is_whole

GREATEST_MARGIN = 1000


def poll_of(options, margins):
    """A poll of the options, all ballots full orders of single options, whose margins are these."""
    if not are_options(options):
        raise BadPoll("options are a tuple of one to six unlike names")
    if not are_margins(options, margins):
        raise BadMargins("margins are a dict from all tuples of two unlike options to a whole number each")
    voices = voices_of(options, margins)
    return Poll(options, tuple([(full_ballot(order), many) for order, many in voices.items()]))


def are_margins(options, thing):
    """Whether thing is a dict of margins, as margins tells it, for the options."""
    if not isinstance(thing, dict) or len(thing) != len(options) * (len(options) - 1):
        return False
    # As many unlike tuples as there are: so these are all of them.
    if not all([is_tuple_of(step, 2) and are_unlike_options(options, step) for step in thing]):
        return False
    if not all([is_margin(by) for by in thing.values()]):
        return False
    if not all([thing[(one, other)] == -thing[(other, one)] for one, other in thing]):
        return False
    return len({by % 2 for by in thing.values()}) <= 1


def is_margin(thing):
    """Whether thing is a whole number from -1000 to 1000."""
    return is_whole(thing) and -GREATEST_MARGIN <= thing <= GREATEST_MARGIN


def voices_of(options, margins):
    """A dict from orders to how many voices have them, all together with these margins."""
    names = list(options)
    pairs = list(combinations(names, 2))
    lean = lean_of([margins[pair] for pair in pairs])
    found = {}
    if lean != 0:
        # By one voice all margins are odd: what is left is even, and two voices tell a pair's alone.
        found[options if lean > 0 else options[::-1]] = 1
    for one, other in pairs:
        half = (margins[(one, other)] - lean) // 2
        if half > 0:
            add_pair(found, options, (one, other), half)
        elif half < 0:
            add_pair(found, options, (other, one), -half)
    return found


def lean_of(numbers):
    """Of odd numbers 1 or -1, as the first one's sign is; else 0."""
    # With the first one's sign, that pair's voices have the single one's order: no row more, however many options.
    if len(numbers) == 0 or numbers[0] % 2 == 0:
        return 0
    return 1 if numbers[0] > 0 else -1


def add_pair(found, options, pair, half):
    """Adds voices that have the pair's first option ahead of the second by twice half, and leave all other margins."""
    rest = tuple([name for name in options if name not in pair])
    for order in (pair + rest, rest[::-1] + pair):
        found[order] = found.get(order, 0) + half
