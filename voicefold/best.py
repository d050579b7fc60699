"""Best orders: what orders cost, and rings that show that none costs less."""

from itertools import combinations, permutations

from voicefold.ballots import are_unlike_options
from voicefold.counts import margins
from voicefold.errors import BadOrder
from voicefold.orders import check_order
from voicefold.shares import Share, shares_sum
from voicefold.tables import Table, heighten
from voicefold.words import is_tuple_of, is_whole


def cost(poll, order):
    """The sum of the margins by which later options of the order beat earlier ones."""
    check_order(poll.options, order)
    return cost_by(margins(poll), order)


def cost_by(held, order):
    """The cost of an order by the margins held."""
    return sum([max(0, held[(later, earlier)]) for at, later in enumerate(order) for earlier in order[:at]])


def best_cost(poll):
    """The least cost of an order."""
    return min([mine for mine, _ in costed_orders(poll)])


def best_orders(poll):
    """The list of all orders of the least cost, by their options' places, rising."""
    orders = costed_orders(poll)
    least = min([mine for mine, _ in orders])
    return [order for mine, order in orders if mine == least]


def costed_orders(poll):
    """The list of tuples of each order's cost and the order, by the options' places, rising."""
    held = margins(poll)
    names = list(poll.options)
    return [(cost_by(held, order), order) for order in permutations(names)]


def bound(poll, rings):
    """The bound of rings: no order costs less."""
    if not are_rings(poll.options, rings):
        raise BadOrder("rings are a list of tuples of three unlike options and a share no less than 0")
    return bound_by(poll, rings)


def are_rings(options, thing):
    """Whether thing is a list of rings."""
    return isinstance(thing, list) and all([is_ring(options, ring) for ring in thing])


def is_ring(options, thing):
    """Whether thing is a tuple of three unlike options and a share no less than 0."""
    if not is_tuple_of(thing, 4) or not are_unlike_options(options, thing[:3]):
        return False
    return isinstance(thing[3], Share) and thing[3].num >= 0


def ring_steps(ring):
    """The three steps of a ring."""
    one, second, third = ring[:3]
    return (one, second), (second, third), (third, one)


def bound_by(poll, rings):
    """The bound of what surely are rings."""
    rooms = {step: Share(max(0, by)) for step, by in margins(poll).items()}
    for ring in rings:
        for step in ring_steps(ring):
            rooms[step] = rooms[step].less(ring[3])
    names = list(poll.options)
    lesser = [lesser_one(rooms[(one, other)], rooms[(other, one)]) for one, other in combinations(names, 2)]
    return shares_sum([ring[3] for ring in rings] + lesser)


def lesser_one(one, other):
    """The lesser one of two shares."""
    return other if other.below(one) else one


def best_paper(poll):
    """Rings whose bound is the least cost."""
    rings = all_rings(poll.options)
    table = ring_table(poll, rings)
    heighten(table)
    return [ring + (share,) for ring, share in zip(rings, table.shares(len(rings))) if share.num > 0]


def all_rings(options):
    """The list of all rings, without shares: each three options, both ways round."""
    names = list(options)
    found = []
    for one, second, third in combinations(names, 3):
        found.append((one, second, third))
        found.append((one, third, second))
    return found


def ring_table(poll, rings):
    """A table by which the rings' shares, its outer unknowns, are found: the last row is to be the greatest.

    Of each two options the step of a margin of 0 or more is strong, the step back weak, its room 0 less its load. A row
    tells how much more room the strong step has than the weak one. Where it has less, a ring that has it may have a
    lesser share, and the bound is no less. So no row need be below 0, and of each two the weak step's room counts.
    """
    held = margins(poll)
    names = list(poll.options)
    strong = [(one, other) if held[(one, other)] >= 0 else (other, one) for one, other in combinations(names, 2)]
    rows = []
    for one, other in strong:
        more = [loaded(ring, (other, one)) - loaded(ring, (one, other)) for ring in rings]
        rows.append(more + [held[(one, other)]])
    # What a ring's share adds to the bound: itself, less itself for each weak step.
    worths = [1 - sum([loaded(ring, (other, one)) for one, other in strong]) for ring in rings]
    return Table(rows + [worths + [0]], len(rings))


def loaded(ring, step):
    """1 where the ring has the step, else 0."""
    return 1 if step in ring_steps(ring) else 0


def shows_best(poll, number, paper):
    """Whether paper is a list of rings whose bound is number or more."""
    if not is_whole(number) or not are_rings(poll.options, paper):
        return False
    return not bound_by(poll, paper).below(Share(number))
