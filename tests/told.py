"""The document's words on rules, gone through straight: what the program tells is held against them."""

from fractions import Fraction
from functools import cache
from itertools import combinations, permutations

from tests.samples import ahead_told, margins_told
from voicefold.polls import Poll

WORDS = ("firsts", "lasts", "points", "lets", "wins", "losses", "ways", "best", "top", "uncovered", "rounds")
# No rule, whatever the options are.
NO_RULES = (
    "first", "Firsts", "firsts ", " points", "point", "wins\n", "weights", "rank", "topuncovered", "", b"firsts", 3,
    None,
    True, [], (), ("firsts",), ["firsts"], {"firsts"}, {"firsts": 1}, {"weights": (1,)}, ("points", (1,)),
    ("weight", (1,)), ("weights",), ("weights", None), ("weights", "a"), ("weights", 3), ("weights", ((1,),)),
    ("weights", ()), (None, (1,)), (["weights"], (1,)), 1.5, object(),
)


def tiers_told(options, ballot):
    """The words of [3.2] on tiers."""
    behind = {name: sum(ahead_told(ballot, other, name) for other in options) for name in options}
    return tuple(tuple(name for name in options if behind[name] == many) for many in sorted(set(behind.values())))


def alone_first(ballot, one, left):
    """Whether a ballot has one ahead of all others of those left."""
    return all(ahead_told(ballot, one, other) for other in left if other != one)


def voices_where(poll, test):
    """How many voices have a ballot of which test tells truth."""
    return sum(many for ballot, many in poll.voices if test(ballot))


def tally_told(poll, left):
    """The words of [8.1]."""
    return {one: voices_where(poll, lambda ballot: alone_first(ballot, one, left))
            for one in poll.options if one in left}


def lets_by(ballot, one):
    """Whether a ballot lets an option by: the words of [4.1]."""
    form, told = ballot
    if form == "order":
        return any(one in tier for tier in told)
    if form == "lets":
        return one in told
    return dict(told).get(one, 0) > 0


def most_told(numbers):
    return [name for name in numbers if numbers[name] == max(numbers.values())]


def least_told(numbers):
    return [name for name in numbers if numbers[name] == min(numbers.values())]


def firsts_told(poll):
    return most_told(tally_told(poll, poll.options))


def lasts_told(poll):
    return least_told({one: voices_where(poll, lambda ballot: all(
        ahead_told(ballot, other, one) for other in poll.options if other != one)) for one in poll.options})


def points_told(poll):
    return most_told({one: sum(many * (ahead_told(ballot, one, other) - ahead_told(ballot, other, one))
                               for ballot, many in poll.voices for other in poll.options) for one in poll.options})


def lets_told(poll):
    return most_told({one: voices_where(poll, lambda ballot: lets_by(ballot, one)) for one in poll.options})


def wins_told(poll):
    held = margins_told(poll)
    return most_told({one: sum((held[one, other] > 0) - (held[other, one] > 0) for other in poll.options)
                      for one in poll.options})


def losses_told(poll):
    held = margins_told(poll)
    return least_told({one: max([held[other, one] for other in poll.options if other != one], default=0)
                       for one in poll.options})


def strongest_told(poll, one, other):
    """How strong the strongest way is, all ways gone through: the words of [6.1]."""
    held = margins_told(poll)
    rest = [name for name in poll.options if name not in (one, other)]
    ways = [(one, *between, other) for many in range(len(rest) + 1) for between in permutations(rest, many)]
    return max(min(held[step] for step in zip(way, way[1:])) for way in ways)


def ways_told(poll):
    strong = {pair: strongest_told(poll, *pair) for pair in permutations(poll.options, 2)}
    return [one for one in poll.options
            if all(strong[one, other] >= strong[other, one] for other in poll.options if other != one)]


def best_told(poll):
    held = margins_told(poll)
    costs = {order: sum(max(held[later, earlier], 0) for earlier, later in combinations(order, 2))
             for order in permutations(poll.options)}
    firsts = {order[0] for order in costs if costs[order] == min(costs.values())}
    return [name for name in poll.options if name in firsts]


def top_told(poll):
    held = margins_told(poll)
    for many in range(1, len(poll.options) + 1):
        for lot in combinations(poll.options, many):
            if all(held[one, other] > 0 for one in lot for other in poll.options if other not in lot):
                return list(lot)


def uncovered_told(poll):
    held = margins_told(poll)

    def stands(one, other):
        return (held[one, other] > 0) - (held[one, other] < 0)

    def covers(one, other):
        thirds = [third for third in poll.options if third not in (one, other)]
        return held[one, other] > 0 and all(stands(one, third) >= stands(other, third) for third in thirds)

    return [one for one in poll.options if not any(covers(other, one) for other in poll.options if other != one)]


def rounds_told(poll):
    ends = set()
    goings = [poll.options]
    while goings:
        left = goings.pop()
        if len(left) == 1:
            ends.add(left[0])
            continue
        for gone in least_told(tally_told(poll, left)):
            goings.append(tuple(name for name in left if name != gone))
    return [name for name in poll.options if name in ends]


def weights_told(poll, weights):
    numbers = {name: Fraction(0) for name in poll.options}
    for ballot, many in poll.voices:
        left = list(weights)
        for tier in tiers_told(poll.options, ballot):
            mine, left = left[:len(tier)], left[len(tier):]
            for name in tier:
                numbers[name] += Fraction(sum(mine), len(mine)) * many
    return most_told(numbers)


BY_WORD = {"firsts": firsts_told, "lasts": lasts_told, "points": points_told, "lets": lets_told, "wins": wins_told,
           "losses": losses_told, "ways": ways_told, "best": best_told, "top": top_told, "uncovered": uncovered_told,
           "rounds": rounds_told}


@cache
def known_lot(options, voices, rule):
    """The words of [4.3] on the lot of a poll of these options and voices."""
    poll = Poll(options, voices)
    return tuple(weights_told(poll, rule[1]) if isinstance(rule, tuple) else BY_WORD[rule](poll))


def lot_told(poll, rule):
    """The words of [4.3] on the lot."""
    return list(known_lot(poll.options, poll.voices, rule))


def end_told(poll, rule, ties=()):
    """The words of [4.3] on the end."""
    found = lot_told(poll, rule)
    return [name for name in ties or poll.options if name in found][0]


def weights_for(options):
    """Weights that fall, some alike, not evenly."""
    return "weights", (7, 3, 3, 1, 0, -2)[:len(options)]


def rules_for(options):
    """All eleven words, and some weights."""
    return (*WORDS, weights_for(options))
