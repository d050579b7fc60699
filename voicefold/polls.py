"""Polls: options, and the voices that were told of them."""

from voicefold.ballots import are_names, are_options, check_option, is_ballot, narrowed, tiers
from voicefold.errors import BadPoll
from voicefold.words import is_tuple_of, is_whole

MOST_ROWS = 30
MOST_VOICES = 1000000


class Poll:
    """Options, and rows of a ballot and how many voices have it. Nothing changes a poll."""

    def __init__(self, options, voices=()):
        check_poll(options, voices)
        self.options = options
        self.voices = voices

    def __eq__(self, other):
        return isinstance(other, Poll) and self.options == other.options and by_tiers(self) == by_tiers(other)

    def __repr__(self):
        return f"Poll({self.options!r}, {self.voices!r})"

    def many(self):
        """How many voices there are in all."""
        return sum([many for _, many in self.voices])

    def joined(self, other):
        """The poll of the own voices, and those of the other one behind them."""
        if self.options != other.options:
            raise BadPoll("the other poll's options are others, or in another order")
        return Poll(self.options, self.voices + other.voices)

    def only(self, names):
        """The poll of some of the options."""
        if not are_names(names):
            raise BadPoll("names are a tuple of unlike names, one at least")
        for name in names:
            check_option(self.options, name)
        left = tuple([name for name in self.options if name in names])
        return Poll(left, tuple([(narrowed(ballot, left), many) for ballot, many in self.voices]))


def check_poll(options, voices):
    """Refuses with BadPoll what makes no poll."""
    if not are_options(options):
        raise BadPoll("options are a tuple of one to six unlike names")
    if not isinstance(voices, tuple) or len(voices) > MOST_ROWS:
        raise BadPoll("voices are a tuple of at most thirty rows")
    if not all([is_row(options, row) for row in voices]):
        raise BadPoll("a row is a tuple of a ballot by the options and a whole number from 1 to 1000000")


def is_row(options, thing):
    """Whether thing is a tuple of a ballot and how many voices have it."""
    if not is_tuple_of(thing, 2) or not is_ballot(options, thing[0]):
        return False
    return is_whole(thing[1]) and 1 <= thing[1] <= MOST_VOICES


def by_tiers(poll):
    """A dict of each tuple of tiers that voices have to how many have it."""
    found = {}
    for ballot, many in poll.voices:
        told = tiers(poll.options, ballot)
        found[told] = found.get(told, 0) + many
    return found


def fewer(voices, at, many):
    """The rows of voices, so many of the row at a place taken away; without the row where none of it are left."""
    ballot, had = voices[at]
    left = ((ballot, had - many),) if had > many else ()
    return voices[:at] + left + voices[at + 1:]
