"""Lies: what comes of it when some voices of a row rank otherwise, and when they gain by it."""

from itertools import permutations

from voicefold.ballots import ahead
from voicefold.errors import BadPoll
from voicefold.orders import check_order, full_ballot, is_order, order_of_ties
from voicefold.polls import Poll, fewer
from voicefold.rules import check_rule, end
from voicefold.words import is_place, is_tuple_of, is_whole


def changed(poll, at, order, *, many=1):
    """The poll in which so many voices of the row at a place rank by an order of all options."""
    check_at(poll, at)
    check_order(poll.options, order)
    check_many(many)
    check_has(poll, at, many)
    return reordered(poll, at, order, many)


def check_at(poll, at):
    """Refuses with BadPoll what is no place of a row."""
    if not is_place(at, len(poll.voices)):
        raise BadPoll("at is a place of a row")


def check_many(many):
    """Refuses with BadPoll what is no whole number from 1 on."""
    if not is_whole(many) or many < 1:
        raise BadPoll("many is a whole number from 1 on")


def check_has(poll, at, many):
    """Refuses with BadPoll where the row at a place has fewer voices."""
    if poll.voices[at][1] < many:
        raise BadPoll("the row has fewer voices")


def moved(poll, at, ballot, many):
    """The poll in which so many voices of the row at a place have another ballot: the last row."""
    return Poll(poll.options, fewer(poll.voices, at, many) + ((ballot, many),))


def reordered(poll, at, order, many):
    """The changed poll, where surely it can be changed so."""
    return moved(poll, at, full_ballot(order), many)


def lie(poll, rule, *, ties=(), many=1):
    """The first tuple of a row's place and an order to which many of its voices change and gain; None if none is."""
    before = end(poll, rule, ties=ties)
    check_many(many)
    names = list(poll.options)
    for at, (ballot, had) in enumerate(poll.voices):
        better = [name for name in names if ahead(poll.options, ballot, name, before)]
        if had < many or not better:
            continue
        for order in permutations(names):
            if end(reordered(poll, at, order, many), rule, ties=ties) in better:
                return at, order
    return None


def ends_of(poll, rule, at, *, ties=(), many=1):
    """The list of tuples of each order and the end where many voices of the row at a place change to it."""
    check_rule(poll.options, rule)
    check_at(poll, at)
    order_of_ties(poll.options, ties)
    check_many(many)
    check_has(poll, at, many)
    names = list(poll.options)
    return [(order, end(reordered(poll, at, order, many), rule, ties=ties)) for order in permutations(names)]


def shows_lie(poll, rule, paper, *, ties=(), many=1):
    """Whether paper is a tuple of a row's place and an order to which many of its voices change and gain."""
    before = end(poll, rule, ties=ties)
    check_many(many)
    if not is_tuple_of(paper, 2):
        return False
    at, order = paper
    if not is_place(at, len(poll.voices)) or not is_order(poll.options, order):
        return False
    ballot, had = poll.voices[at]
    if had < many:
        return False
    behind = end(reordered(poll, at, order, many), rule, ties=ties)
    return ahead(poll.options, ballot, behind, before)
