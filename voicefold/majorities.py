"""Majorities: who beats whom, the top lot, who is uncovered, and papers of both."""

from voicefold.ballots import check_option, is_option
from voicefold.counts import margin, margins
from voicefold.orders import is_lot, is_way, steps_of, steps_out
from voicefold.words import is_tuple_of


def beats(poll, one, other):
    """Whether one beats other."""
    return margin(poll, one, other) > 0


def leader(poll):
    """The option that beats each other one, None where there is none."""
    held = margins(poll)
    for one in poll.options:
        if all([held[(one, other)] > 0 for other in others_than(poll, one)]):
            return one
    return None


def trailer(poll):
    """The option that each other one beats, None where there is none."""
    held = margins(poll)
    for one in poll.options:
        if all([held[(other, one)] > 0 for other in others_than(poll, one)]):
            return one
    return None


def others_than(poll, one):
    """The list of the other options, in order."""
    return [other for other in poll.options if other != one]


def top_lot(poll):
    """The least set of options of which each beats each one that is not in it, as a list."""
    held = margins(poll)
    # An option is in the lot just where ways without a loss lead from it to all others.
    return [one for one in poll.options if len(unlost_ways(poll, held, one)) == len(poll.options)]


def unlost_ways(poll, held, start):
    """A dict from each option to which a way without a loss leads from start, to such a way."""
    found = {start: (start,)}
    fresh = [start]
    while fresh:
        here = fresh.pop(0)
        for there in poll.options:
            if there not in found and held[(here, there)] >= 0:
                found[there] = found[here] + (there,)
                fresh.append(there)
    return found


def top_paper(poll, option):
    """A paper that the option is in the top lot, or isn't."""
    check_option(poll.options, option)
    ways = unlost_ways(poll, margins(poll), option)
    if len(ways) < len(poll.options):
        return "out", top_lot(poll)
    return "in", [ways[other] for other in others_than(poll, option)]


def is_worded(paper):
    """Whether paper is a tuple of a text and something else."""
    return is_tuple_of(paper, 2) and isinstance(paper[0], str)


def shows_top(poll, option, paper):
    """Whether paper is one that the option is in the top lot, or isn't."""
    check_option(poll.options, option)
    if not is_worded(paper):
        return False
    word, told = paper
    if word == "in":
        return are_unlost_ways(poll, option, told)
    if word == "out":
        return is_lot_ahead(poll, option, told)
    return False


def are_unlost_ways(poll, option, told):
    """Whether told is a list of ways without a loss from the option to each other one, in order."""
    others = others_than(poll, option)
    if not isinstance(told, list) or len(told) != len(others):
        return False
    if not all([is_way(poll.options, way, option, other) for way, other in zip(told, others)]):
        return False
    held = margins(poll)
    return all([held[step] >= 0 for way in told for step in steps_of(way)])


def is_lot_ahead(poll, option, told):
    """Whether told is a lot without the option, of which each beats each one that is not in it."""
    if not is_lot(poll.options, told) or option in told:
        return False
    held = margins(poll)
    return all([held[step] > 0 for step in steps_out(poll.options, told)])


def covers(poll, one, other):
    """Whether one covers other."""
    check_option(poll.options, one)
    check_option(poll.options, other)
    return covers_by(poll, margins(poll), one, other)


def covers_by(poll, held, one, other):
    """Whether one covers other, by the margins held."""
    if number(held, one, other) < 1:
        return False
    return not any([stands_worse(held, one, other, third) for third in poll.options])


def number(held, one, other):
    """1 where one beats other, -1 where it loses to it, else 0."""
    by = held.get((one, other), 0)
    if by > 0:
        return 1
    return -1 if by < 0 else 0


def stands_worse(held, one, other, third):
    """Whether third is neither of both, and one's number against it is less than other's."""
    if third == one or third == other:
        return False
    return number(held, one, third) < number(held, other, third)


def uncovered_lot(poll):
    """The list of the options that none covers."""
    held = margins(poll)
    return [one for one in poll.options if not any([covers_by(poll, held, other, one) for other in poll.options])]


def uncovered_paper(poll, option):
    """A paper that none covers the option, or that one does."""
    check_option(poll.options, option)
    held = margins(poll)
    reasons = []
    for other in others_than(poll, option):
        if covers_by(poll, held, other, option):
            return "out", other
        reasons.append(reason_against(poll, held, option, other))
    return "in", reasons


def reason_against(poll, held, option, other):
    """A reason why other does not cover the option."""
    if number(held, other, option) < 1:
        return option
    return [third for third in poll.options if stands_worse(held, other, option, third)][0]


def shows_uncovered(poll, option, paper):
    """Whether paper is one that none covers the option, or that one does."""
    check_option(poll.options, option)
    if not is_worded(paper):
        return False
    word, told = paper
    if word == "in":
        return are_reasons(poll, option, told)
    if word == "out":
        return is_option(poll.options, told) and covers_by(poll, margins(poll), told, option)
    return False


def are_reasons(poll, option, told):
    """Whether told is a list of reasons why each other option, in order, does not cover the option."""
    others = others_than(poll, option)
    if not isinstance(told, list) or len(told) != len(others):
        return False
    held = margins(poll)
    return all([is_reason(poll, held, option, other, reason) for other, reason in zip(others, told)])


def is_reason(poll, held, option, other, reason):
    """Whether reason shows that other does not cover the option."""
    if not is_option(poll.options, reason):
        return False
    if reason == option:
        return number(held, other, option) < 1
    return stands_worse(held, other, option, reason)
