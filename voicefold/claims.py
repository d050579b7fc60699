"""Claims: what of a poll's voices surely holds, and shows who is the end of its rounds."""

from itertools import combinations, permutations

from voicefold.ballots import are_options, are_unlike_options, check_option
from voicefold.counts import firsts, ranked
from voicefold.errors import BadClaim, BadPoll
from voicefold.rounds import ends_where, round_ends, tally, tally_by, with_fewest


def is_claim(options, thing):
    """Whether thing is a claim of either kind."""
    if not isinstance(thing, tuple) or len(thing) < 3 or not isinstance(thing[0], str):
        return False
    if not are_unlike_options(options, thing[1:3]):
        return False
    if thing[0] == "before":
        return len(thing) == 3
    return thing[0] == "within" and len(thing) == 4 and is_lot_of(options, thing[3], thing[1:3])


def is_lot_of(options, thing, both):
    """Whether thing is a tuple of unlike options, in the options' order, with both of them."""
    if not isinstance(thing, tuple) or not are_unlike_options(options, thing):
        return False
    if thing != tuple([name for name in options if name in thing]):
        return False
    return all([name in thing for name in both])


def check_claim(options, claim):
    """Refuses with BadClaim what is no claim."""
    if not is_claim(options, claim):
        raise BadClaim("a claim is a tuple of before and two options, or of within, two options and a lot of them")


def check_claims(options, claims):
    """Refuses with BadClaim what is no list of claims."""
    if not isinstance(claims, list):
        raise BadClaim("claims are a list")
    for claim in claims:
        check_claim(options, claim)


def lead(poll, claim):
    """By how many voices more than the other one has the claim's one option has what it claims."""
    check_claim(poll.options, claim)
    one, other = claim[1:3]
    rows = ranked(poll)
    if claim[0] == "before":
        return firsts(poll)[one] - sum([many for rank, many in rows if rank[other] < rank[one]])
    held = tally_by(rows, claim[3])
    return held[one] - held[other]


def claims_show(options, end, claims):
    """Whether each going with another end is barred by one of the claims."""
    if not are_options(options):
        raise BadPoll("options are a tuple of one to six unlike names")
    check_option(options, end)
    check_claims(options, claims)
    lots = lots_of(options)
    return are_barred(options, end, [steps_barred(lots, claim) for claim in claims])


def lots_of(options):
    """The list of all tuples of two options or more, in the options' order."""
    names = list(options)
    return [left for many in range(2, len(names) + 1) for left in combinations(names, many)]


def steps_barred(lots, claim):
    """The list of the steps that a claim bars: tuples of those left, and the one of them that goes next."""
    one, other = claim[1:3]
    if claim[0] == "within":
        return [(claim[3], one)]
    # One goes ahead of other just where it goes at some time while both are left.
    return [(left, one) for left in lots if one in left and other in left]


def are_barred(options, end, steps):
    """Whether, where all steps of some lists of them are barred, no going leads to another end."""
    barred = {step: True for listed in steps for step in listed}
    ends = ends_where(options, lambda left: [gone for gone in left if (left, gone) not in barred])
    return all([found == end for found in ends])


def claims_for(poll):
    """A list of claims that hold and show the poll's end, none of them too many; None where there are several ends."""
    ends = round_ends(poll)
    if len(ends) > 1:
        return None
    lots = lots_of(poll.options)
    held = claims_that_hold(poll, lots)
    kept = [(claim, steps_barred(lots, claim)) for claim in held]
    # What is too many beside some claims is so beside more: so each is tried once.
    for claim in held:
        rest = [row for row in kept if row[0] != claim]
        if are_barred(poll.options, ends[0], [steps for _, steps in rest]):
            kept = rest
    return [claim for claim, _ in kept]


def claims_that_hold(poll, lots):
    """The list of claims that hold and together bar all steps that can be barred, those of lesser leads ahead."""
    names = list(poll.options)
    told = []
    for left in lots:
        # A step is barred by each claim over another one; over one with the fewest the lead is the greatest.
        fewest = with_fewest(tally(poll, list(left)))[0]
        told.extend([("within", one, fewest, left) for one in left if one != fewest])
    told.extend([("before", one, other) for one, other in permutations(names, 2)])
    leads = {claim: lead(poll, claim) for claim in told}
    # Those ahead are left out ahead of others, so that the least lead that is kept is as great as can be.
    return sorted([claim for claim in told if leads[claim] > 0], key=lambda claim: leads[claim])


def slack(poll, claims):
    """The greatest number of voices that may be told as any other ballot while all claims surely hold still."""
    check_claims(poll.options, claims)
    if len(claims) == 0:
        return poll.many()
    least = min([lead(poll, claim) for claim in claims])
    if least <= 0:
        return -1
    # A voice that changes may take two of the lead, and one of it must be left.
    return (least - 1) // 2
