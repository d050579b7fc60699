"""Ways: how strong they are, with papers, and orders by pairs."""

from voicefold.ballots import check_option
from voicefold.counts import margins
from voicefold.orders import is_lot, is_order, is_way, order_of_ties, steps_of, steps_out
from voicefold.words import is_tuple_of, is_whole


def strength(poll, one, other):
    """How strong the strongest way from one to other is."""
    check_option(poll.options, one)
    check_option(poll.options, other)
    found, _ = strongest_ways(poll.options, margins(poll), one)[other]
    return found


def strongest_ways(options, held, start):
    """A dict from each other option to how strong the strongest way from start to it is, and such a way."""
    found = {}
    ways = {start: (start,)}
    left = [option for option in options if option != start]
    while left:
        # Each way out of the options that are reached has a step out of them, and none of these is stronger than this.
        steps = [(one, other) for one in ways for other in left]
        here, there = max(steps, key=lambda step: held[step])
        ways[there] = ways[here] + (there,)
        found[there] = (weakest(held, ways[there]), ways[there])
        left.remove(there)
    return found


def weakest(held, way):
    """How strong a way of two options or more is: as its weakest step."""
    return min([held[step] for step in steps_of(way)])


def strength_paper(poll, one, other):
    """A strongest way from one to other, and a lot that shows that no way is stronger."""
    check_option(poll.options, one)
    check_option(poll.options, other)
    found = strongest_ways(poll.options, margins(poll), one)
    most, way = found[other]
    return way, [option for option in poll.options if option == one or found[option][0] > most]


def shows_strength(poll, one, other, number, paper):
    """Whether paper shows that the strongest way from one to other is just so strong as number."""
    check_option(poll.options, one)
    check_option(poll.options, other)
    if not is_whole(number) or not is_tuple_of(paper, 2):
        return False
    way, lot = paper
    if not is_way(poll.options, way, one, other) or not is_lot(poll.options, lot):
        return False
    if one not in lot or other in lot:
        return False
    held = margins(poll)
    if weakest(held, way) != number:
        return False
    return all([held[step] <= number for step in steps_out(poll.options, lot)])


def ways_lot(poll):
    """The list of the options that win by ways: from which no strongest way is weaker than the one back."""
    held = margins(poll)
    found = {one: strongest_ways(poll.options, held, one) for one in poll.options}
    return [one for one in poll.options if is_no_weaker(found, one)]


def is_no_weaker(found, one):
    """Whether, to each other option, the strongest way found from one is no weaker than the strongest way back."""
    return all([there >= found[other][one][0] for other, (there, _) in found[one].items()])


def pairs_order(poll, *, ties=()):
    """The order found by pairs, with an order of ties."""
    left = list(order_of_ties(poll.options, ties))
    kept = kept_pairs(left, margins(poll))
    found = []
    while left:
        free = [option for option in left if not any([(above, option) in kept for above in left])]
        found.append(free[0])
        left.remove(free[0])
    return tuple(found)


def kept_pairs(order, held):
    """The list of the pairs that are kept, where order is that of ties."""
    pairs = [(one, other) for one in order for other in order if one != other and held[(one, other)] > 0]
    kept = []
    # Pairs of like margins stay as they stand: by the place of one, then of other.
    for one, other in sorted(pairs, key=lambda pair: -held[pair]):
        if one not in led_to(kept, other):
            kept.append((one, other))
    return kept


def led_to(kept, start):
    """The list of start and all options to which kept pairs lead from it, one behind another."""
    found = [start]
    at = 0
    while at < len(found):
        for one, other in kept:
            if one == found[at] and other not in found:
                found.append(other)
        at += 1
    return found


def shows_stands(poll, order):
    """Whether order is one of all options that stands."""
    if not is_order(poll.options, order):
        return False
    held = margins(poll)
    return all([stands_ahead(order[at:], held) for at in range(len(order))])


def stands_ahead(order, held):
    """Whether the first option of an order stands ahead of each later one that beats it."""
    first = order[0]
    reach = {}
    for at in range(1, len(order)):
        there = order[at]
        # Ways go from options to later ones alone, so what leads here is told by those between.
        by_others = [min(reach[here], held[(here, there)]) for here in order[1:at]]
        reach[there] = max([held[(first, there)]] + by_others)
        if held[(there, first)] > max(0, reach[there]):
            return False
    return True
