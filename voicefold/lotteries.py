"""Lotteries: shares of the options that no option beats."""

from voicefold.ballots import is_option
from voicefold.counts import margins
from voicefold.shares import Share, shares_sum
from voicefold.sums import met_by


def lottery(poll):
    """A dict from each option to its share, in an unbeaten lottery."""
    unbeaten = [(column, Share(0)) for column in margin_columns(poll)]
    some = (tuple([Share(1) for _ in poll.options]), Share(1))
    # Unbeaten shares are so whatever all of them are multiplied by: it is enough that they come to 1 or more.
    found = met_by(unbeaten + [some])
    total = shares_sum(list(found))
    return {name: share.by(total) for name, share in zip(poll.options, found)}


def margin_columns(poll):
    """The list, for each option, of a tuple of each option's margin over it, as shares."""
    held = margins(poll)
    return [tuple([Share(held.get((one, other), 0)) for one in poll.options]) for other in poll.options]


def shows_lottery(poll, paper):
    """Whether paper is an unbeaten lottery."""
    if not is_lottery(poll.options, paper):
        return False
    shares = [paper[name] for name in poll.options]
    return all([meets_nought(column, shares) for column in margin_columns(poll)])


def is_lottery(options, thing):
    """Whether thing is a dict from each option to a share, none below 0, together 1."""
    if not isinstance(thing, dict) or len(thing) != len(options):
        return False
    # The keys come first: any other one may be of a kind that tells that it is equal to an option.
    if not all([is_option(options, name) for name in thing]):
        return False
    shares = list(thing.values())
    if not all([isinstance(share, Share) and share.num >= 0 for share in shares]):
        return False
    return shares_sum(shares) == Share(1)


def meets_nought(column, shares):
    """Whether the margins of a column, each times its share, come together to 0 or more."""
    return shares_sum([by.times(share) for by, share in zip(column, shares)]).num >= 0
