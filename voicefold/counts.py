"""Counts of a poll's voices: margins, first and last places, points and weights."""

from voicefold.ballots import check_option, named, ranks, tiers
from voicefold.errors import BadRule
from voicefold.shares import Share
from voicefold.words import is_tuple_of, is_whole


def margin(poll, one, other):
    """How many voices have one ahead of other, less how many have other ahead of one."""
    check_option(poll.options, one)
    check_option(poll.options, other)
    return margin_by(ranked(poll), one, other)


def margins(poll):
    """A dict from all tuples of two unlike options to the margin of the first over the second."""
    rows = ranked(poll)
    return {(one, other): margin_by(rows, one, other) for one in poll.options for other in poll.options if one != other}


def ranked(poll):
    """The poll's rows, each with its ballot's ranks in the place of the ballot."""
    return [(ranks(poll.options, ballot), many) for ballot, many in poll.voices]


def margin_by(rows, one, other):
    """The margin of one over other by a poll's ranked rows."""
    found = 0
    for rank, many in rows:
        if rank[one] < rank[other]:
            found += many
        elif rank[one] > rank[other]:
            found -= many
    return found


def firsts(poll):
    """A dict of how many voices have each option alone in the first tier."""
    return alone_at(poll, 0)


def lasts(poll):
    """A dict of how many voices have each option alone in the last tier."""
    return alone_at(poll, -1)


def alone_at(poll, at):
    """A dict of how many voices have each option alone in the tier at a place."""
    found = {name: 0 for name in poll.options}
    for ballot, many in poll.voices:
        tier = tiers(poll.options, ballot)[at]
        if len(tier) == 1:
            found[tier[0]] += many
    return found


def lets(poll):
    """A dict of how many voices let each option by."""
    found = {name: 0 for name in poll.options}
    for ballot, many in poll.voices:
        for name in named(ballot):
            found[name] += many
    return found


def points(poll):
    """A dict of how many options each option is ahead of, less how many are ahead of it, over all voices."""
    held = margins(poll)
    return {one: sum([held[(one, other)] for other in poll.options if other != one]) for one in poll.options}


def are_weights(options, thing):
    """Whether thing is a tuple of whole numbers, one for each option, none above the one ahead of it."""
    if not is_tuple_of(thing, len(options)) or not all([is_whole(weight) for weight in thing]):
        return False
    return all([weight <= before for before, weight in zip(thing, thing[1:])])


def weighed(poll, weights):
    """A dict of the share that each option has by weights, over all voices."""
    if not are_weights(poll.options, weights):
        raise BadRule("weights are a tuple of whole numbers, one for each option, none above the one ahead of it")
    found = {name: Share(0) for name in poll.options}
    for ballot, many in poll.voices:
        at = 0
        for tier in tiers(poll.options, ballot):
            mean = Share(many * sum(weights[at:at + len(tier)]), len(tier))
            for name in tier:
                found[name] = found[name].plus(mean)
            at += len(tier)
    return found
