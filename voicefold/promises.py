"""Promises of rules: whether a rule breaks one by a case, and the least case by which it does."""

from itertools import permutations

from voicefold.ballots import ahead, is_option, tiers
from voicefold.counts import firsts
from voicefold.errors import BadRule
from voicefold.lies import moved
from voicefold.majorities import leader, trailer
from voicefold.orders import full_ballot
from voicefold.polls import Poll, fewer
from voicefold.rules import check_rule, end, lot
from voicefold.words import is_place, is_whole

SMALL_OPTIONS = ("a", "b", "c")
MOST_SMALL_VOICES = 4


def breaks_leader(rule, poll):
    """Whether there is a leader, and it isn't the only one in the lot."""
    found = leader(poll)
    return found is not None and lot(poll, rule) != [found]


def breaks_trailer(rule, poll):
    """Whether there are two options or more, and the trailer is in the lot."""
    found = trailer(poll)
    return len(poll.options) > 1 and found is not None and found in lot(poll, rule)


def breaks_most(rule, poll):
    """Whether more than half have an option alone in the first tier, and it isn't the only one in the lot."""
    most = [name for name, many in firsts(poll).items() if 2 * many > poll.many()]
    return len(most) > 0 and lot(poll, rule) != most


def breaks_agreed(rule, poll):
    """Whether all voices, one at least, have an option ahead of one that is in the lot."""
    if len(poll.voices) == 0:
        return False
    return any([all_have_ahead(poll, one, other) for other in lot(poll, rule) for one in poll.options])


def all_have_ahead(poll, one, other):
    """Whether all voices have one ahead of other."""
    return all([ahead(poll.options, ballot, one, other) for ballot, _ in poll.voices])


def breaks_joined(rule, poll, other):
    """Whether the lots of both have options in common, and the lot of both joined isn't just these."""
    others = lot(other, rule)
    common = [name for name in lot(poll, rule) if name in others]
    return len(common) > 0 and lot(poll.joined(other), rule) != common


def breaks_turned(rule, poll):
    """Whether there are two options or more, and the lot is one option, of the poll turned about the same one."""
    if len(poll.options) == 1:
        return False
    found = lot(poll, rule)
    return len(found) == 1 and lot(turned(poll), rule) == found


def turned(poll):
    """The poll with all ballots turned about, each as an order of its tiers, the last one first."""
    voices = [(("order", tiers(poll.options, ballot)[::-1]), many) for ballot, many in poll.voices]
    return Poll(poll.options, tuple(voices))


def breaks_lifted(rule, poll, at, option):
    """Whether the option is in the lot, and no more when one voice of a row has it alone in the first tier."""
    if option not in lot(poll, rule):
        return False
    ballot, _ = poll.voices[at]
    return option not in lot(moved(poll, at, lifted(poll.options, ballot, option), 1), rule)


def lifted(options, ballot, option):
    """The ballot with the option alone in the first tier, and behind it its tiers without it."""
    rest = [tuple([name for name in tier if name != option]) for tier in tiers(options, ballot)]
    return "order", ((option,),) + tuple([tier for tier in rest if len(tier) > 0])


def breaks_stays(rule, poll, at):
    """Whether the end with one voice of a row less is one that its ballot has ahead of the end of the poll."""
    ballot, _ = poll.voices[at]
    behind = end(Poll(poll.options, fewer(poll.voices, at, 1)), rule)
    return ahead(poll.options, ballot, behind, end(poll, rule))


BREAKS = {"leader": breaks_leader, "trailer": breaks_trailer, "most": breaks_most, "agreed": breaks_agreed,
          "joined": breaks_joined, "turned": breaks_turned, "lifted": breaks_lifted, "stays": breaks_stays}


def breaks(rule, promise, case):
    """Whether the rule breaks the promise by the case."""
    check_promise(promise)
    if not is_case(promise, case):
        raise BadRule("this is no case of this promise")
    check_rule(case[0].options, rule)
    asked = BREAKS[promise]
    return asked(rule, *case)


def check_promise(promise):
    """Refuses with BadRule what is no promise of rules."""
    if not isinstance(promise, str) or promise not in BREAKS:
        raise BadRule("a promise is one of the eight words")


def is_case(promise, thing):
    """Whether thing is a case of the promise."""
    if not isinstance(thing, tuple) or len(thing) == 0 or not isinstance(thing[0], Poll):
        return False
    poll = thing[0]
    if promise == "joined":
        return len(thing) == 2 and isinstance(thing[1], Poll) and thing[1].options == poll.options
    if promise == "lifted":
        return len(thing) == 3 and is_place(thing[1], len(poll.voices)) and is_option(poll.options, thing[2])
    if promise == "stays":
        return len(thing) == 2 and is_place(thing[1], len(poll.voices))
    return len(thing) == 1


def least_break(rule, promise, *, voices=3):
    """The first case of polls of a few voices by which the rule breaks the promise, None where none does."""
    check_rule(SMALL_OPTIONS, rule)
    check_promise(promise)
    if not is_whole(voices) or not 1 <= voices <= MOST_SMALL_VOICES:
        raise BadRule("voices are a whole number from 1 to 4")
    asked = BREAKS[promise]
    for many in range(1, voices + 1):
        for case in cases_of(promise, many):
            if asked(rule, *case):
                return case
    return None


def cases_of(promise, many):
    """The list of the promise's cases of so many voices in all, in the order in which they are gone through."""
    if promise == "joined":
        return pairs_of_polls(many)
    found = small_polls(many)
    if promise == "stays":
        return [(poll, at) for poll in found for at in range(len(poll.voices))]
    if promise == "lifted":
        return [(poll, at, name) for poll in found for at in range(len(poll.voices)) for name in SMALL_OPTIONS]
    return [(poll,) for poll in found]


def pairs_of_polls(many):
    """The list of all tuples of two polls, of so many voices together, one each at least."""
    found = []
    for own in range(1, many):
        others = small_polls(many - own)
        found.extend([(poll, other) for poll in small_polls(own) for other in others])
    return found


def small_polls(many):
    """The list of the polls of so many voices, those with the most voices of the first order ahead, and so on."""
    names = list(SMALL_OPTIONS)
    orders = list(permutations(names))
    return [poll_by(orders, numbers) for numbers in numbers_of(many, len(orders))]


def poll_by(orders, numbers):
    """The poll of each order with its number of voices, without those that have none."""
    rows = [(full_ballot(order), number) for order, number in zip(orders, numbers) if number > 0]
    return Poll(SMALL_OPTIONS, tuple(rows))


def numbers_of(many, places):
    """The list of all tuples of so many whole numbers, none below 0, that together come to many, falling."""
    if places == 1:
        return [(many,)]
    return [(first,) + rest for first in range(many, -1, -1) for rest in numbers_of(many - first, places - 1)]
