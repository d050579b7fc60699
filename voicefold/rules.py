"""Rules: which options win by each of them, and which one is the end."""

from voicefold.best import best_orders
from voicefold.counts import are_weights, firsts, lasts, lets, margins, points, weighed
from voicefold.errors import BadRule
from voicefold.majorities import number, others_than, top_lot, uncovered_lot
from voicefold.orders import order_of_ties
from voicefold.rounds import round_ends
from voicefold.ways import ways_lot
from voicefold.words import is_tuple_of

RULES = ("firsts", "lasts", "points", "lets", "wins", "losses", "ways", "best", "top", "uncovered", "rounds")


def with_most(numbers):
    """The list of the options with the greatest number."""
    most = max(numbers.values())
    return [name for name in numbers if numbers[name] == most]


def with_least(numbers):
    """The list of the options with the least number."""
    return with_most({name: -mine for name, mine in numbers.items()})


def by_firsts(poll):
    """Those that most voices have alone in the first tier."""
    return with_most(firsts(poll))


def by_lasts(poll):
    """Those that fewest voices have alone in the last tier."""
    return with_least(lasts(poll))


def by_points(poll):
    """Those with the most points."""
    return with_most(points(poll))


def by_lets(poll):
    """Those that most voices let by."""
    return with_most(lets(poll))


def by_wins(poll):
    """Those with the most options that they beat, less how many beat them."""
    held = margins(poll)
    return with_most({one: sum([number(held, one, other) for other in poll.options]) for one in poll.options})


def by_losses(poll):
    """Those of which the greatest of the others' margins over them is least."""
    held = margins(poll)
    return with_least({one: greatest_lost(poll, held, one) for one in poll.options})


def greatest_lost(poll, held, one):
    """The greatest of the others' margins over one, below 0 where it beats them all; 0 with no others."""
    return max([held[(other, one)] for other in others_than(poll, one)], default=0)


def by_best(poll):
    """The first ones of best orders."""
    found = [order[0] for order in best_orders(poll)]
    return [name for name in poll.options if name in found]


def by_ways(poll):
    """Those to which no way back is stronger than the strongest way from them."""
    return ways_lot(poll)


def by_top(poll):
    """The top lot."""
    return top_lot(poll)


def by_uncovered(poll):
    """Those that none covers."""
    return uncovered_lot(poll)


def by_rounds(poll):
    """Those that may be the end of rounds."""
    return round_ends(poll)


BY_WORD = {"firsts": by_firsts, "lasts": by_lasts, "points": by_points, "lets": by_lets, "wins": by_wins,
           "losses": by_losses, "ways": by_ways, "best": by_best, "top": by_top, "uncovered": by_uncovered,
           "rounds": by_rounds}


def by_weights(poll, weights):
    """Those with the greatest share by weights."""
    shares = weighed(poll, weights)
    return [one for one in shares if not any([shares[one].below(shares[other]) for other in shares])]


def is_rule(options, thing):
    """Whether thing is a rule for polls of the options: one of the words, or weights for them."""
    if isinstance(thing, str):
        return thing in RULES
    if not is_tuple_of(thing, 2) or not isinstance(thing[0], str):
        return False
    return thing[0] == "weights" and are_weights(options, thing[1])


def check_rule(options, rule):
    """Refuses with BadRule what is no rule for polls of the options."""
    if not is_rule(options, rule):
        raise BadRule("a rule is one of the words, or a tuple of weights and them, one for each option, none rising")


def lot(poll, rule):
    """The list of the options that win by the rule, in their order."""
    check_rule(poll.options, rule)
    if isinstance(rule, tuple):
        return by_weights(poll, rule[1])
    asked = BY_WORD[rule]
    return asked(poll)


def end(poll, rule, *, ties=()):
    """The first one by an order of ties of those that win by the rule."""
    check_rule(poll.options, rule)
    order = order_of_ties(poll.options, ties)
    found = lot(poll, rule)
    return [name for name in order if name in found][0]
