"""Rounds: in each, one with the fewest voices goes, until one is left."""

from voicefold.ballots import check_option
from voicefold.counts import ranked
from voicefold.errors import BadOrder
from voicefold.orders import order_of_ties
from voicefold.words import is_name


def tally(poll, left):
    """A dict of how many voices count for each of the options left, in the poll's order."""
    if not are_unlike_names(left):
        raise BadOrder("left is a list of unlike names, one at least")
    for name in left:
        check_option(poll.options, name)
    return tally_by(ranked(poll), [name for name in poll.options if name in left])


def are_unlike_names(thing):
    """Whether thing is a list of unlike names, one at least."""
    if not isinstance(thing, list) or len(thing) == 0:
        return False
    return all([is_name(name) for name in thing]) and len(set(thing)) == len(thing)


def tally_by(rows, left):
    """A dict of how many voices count for each of those left, by a poll's ranked rows."""
    found = {name: 0 for name in left}
    for rank, many in rows:
        least = min([rank[name] for name in left])
        foremost = [name for name in left if rank[name] == least]
        if len(foremost) == 1:
            found[foremost[0]] += many
    return found


def with_fewest(held):
    """The list of the options for which the fewest voices count, by a tally."""
    least = min(held.values())
    return [name for name in held if held[name] == least]


def rounds(poll, *, ties=()):
    """The list of who goes, with the tallies ahead of it, round by round; and the end."""
    order = order_of_ties(poll.options, ties)
    rows = ranked(poll)
    left = poll.options
    goings = []
    while len(left) > 1:
        held = tally_by(rows, left)
        fewest = with_fewest(held)
        gone = [name for name in order if name in fewest][-1]
        goings.append((gone, tuple(list(held.values()))))
        left = without(left, gone)
    return goings, left[0]


def without(left, gone):
    """The tuple of those left when one of them has gone."""
    return tuple([name for name in left if name != gone])


def round_ends(poll):
    """The list of all options that may be left at last where any one with the fewest may go each time."""
    rows = ranked(poll)
    return ends_where(poll.options, lambda left: with_fewest(tally_by(rows, left)))


def ends_where(options, may_go):
    """The list of all options that may be left at last, where may_go tells of those left who may go."""
    lots = [options]
    for _ in range(len(options) - 1):
        lots = lots_behind(lots, may_go)
    ends = [left[0] for left in lots]
    return [name for name in options if name in ends]


def lots_behind(lots, may_go):
    """The list of all that may be left when one of each lot has gone, none twice."""
    # Many goings lead to the same ones left: what comes then is gone through once.
    return list({without(left, gone): True for left in lots for gone in may_go(left)})
