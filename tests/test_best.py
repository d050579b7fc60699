"""[7.1], [7.2]: what orders cost, best orders, and rings that show it."""

import unittest
from fractions import Fraction
from itertools import combinations, permutations

from tests.samples import THINGS, EqualToAll, many_polls, margins_told, poll_of, poll_with
from voicefold.best import best_cost, best_orders, best_paper, bound, cost, shows_best
from voicefold.errors import BadOrder, PollError
from voicefold.polls import Poll
from voicefold.shares import Share

POLLS = many_polls(71, 5, 150)
# Margins are twice the numbers: a over b 2, b over c 4, c over a 6.
RING = poll_with("abc", {"ab": 1, "bc": 2, "ca": 3})
EVEN_RING = poll_with("cab", {"ab": 1, "bc": 1, "ca": 1})
GREAT = poll_with("bcadf", {"ab": 10 ** 6, "bc": 999999, "ca": 10 ** 6, "cd": 999998, "db": 10 ** 6, "fa": 10 ** 6,
                            "bf": 777777, "df": 1, "ad": 5})
TWO = poll_of("ba", "ab 5", "ba 2")
ONE = Poll(("a",), ((("lets", ()), 3),))
NONE = Poll(("b", "a", "c"))
LINE = poll_with("cab", {"ab": 1, "bc": 2, "ac": 3})
# Two rings that share a step, and one round four options.
FOUR = poll_with("dacb", {"ab": 3, "bc": 2, "cd": 4, "da": 1, "ca": 5, "bd": 2})
ROUND = poll_with("abcd", {"ab": 2, "bc": 2, "cd": 2, "da": 2, "ac": 1})
ROUND_FIVE = poll_with("abcde", {"ab": 1, "bc": 1, "cd": 1, "de": 1, "ea": 1, "ac": 1, "bd": 1, "ce": 1, "da": 1,
                                 "eb": 1})
# All in one round of five, the two apart even.
LONG_ROUND = poll_with("eabcd", {"ab": 3, "bc": 3, "cd": 3, "de": 3, "ea": 3})
ALL = (RING, EVEN_RING, GREAT, TWO, ONE, NONE, LINE, FOUR, ROUND, ROUND_FIVE, LONG_ROUND, *POLLS)

NO_ORDERS = ([], ["a", "b", "c"], "abc", ("a", "b"), ("a", "b", "c", "a"), ("a", "b", "b"), ("a", "b", "d"),
             ("a", "b", "c", "d"), ("a", "b", None), ("a", "b", ["c"]), ("a", "b", EqualToAll()), ("a", "b", 1), (),
             (("a", "b", "c"),), {"a": 1, "b": 2, "c": 3}, {"a", "b", "c"}, ("abc",), EqualToAll())

HALF = Share(1, 2)
GOOD_RING = ("a", "b", "c", HALF)
NO_RINGS = (
    (), (GOOD_RING,), {}, {GOOD_RING[:3]: HALF}, "abc", None, GOOD_RING, [GOOD_RING, None], [None], [[]], [()], [HALF],
    [list(GOOD_RING)], ["abcs"], [("a", "b", "c")], [("a", "b", HALF)], [("a", HALF)], [("a", "b", "c", "d", HALF)],
    [("a", "b", "c", HALF, HALF)], [(HALF, "a", "b", "c")], [("a", "b", "a", HALF)], [("a", "a", "b", HALF)],
    [("a", "b", "b", HALF)], [("a", "b", "d", HALF)], [("d", "e", "f", HALF)], [("a", "b", None, HALF)],
    [("a", "b", ["c"], HALF)], [("a", "b", EqualToAll(), HALF)], [(EqualToAll(),) * 4], [("a", "b", 1, HALF)],
    [("a", "b", "c", Share(-1))], [("a", "b", "c", Share(-1, 10 ** 9))], [("a", "b", "c", 1)], [("a", "b", "c", 0)],
    [("a", "b", "c", True)], [("a", "b", "c", None)], [("a", "b", "c", "1")], [("a", "b", "c", 0.5)],
    [("a", "b", "c", [HALF])], [("a", "b", "c", (1, 2))], [("a", "b", "c", Share)], [("a", "b", "c", EqualToAll())],
    [GOOD_RING, GOOD_RING, ("a", "b", "c", Share(-1, 2))], [GOOD_RING, ["a", "b", "c", HALF]],
    [(("a", "b", "c"), HALF)],
    [("abc", HALF)], [("", "a", "b", HALF)], EqualToAll(), [EqualToAll()],
)


def cost_told(poll, order):
    """The words of [7.1] on a cost."""
    held = margins_told(poll)
    return sum(held[later, earlier] for earlier, later in combinations(order, 2) if held[later, earlier] > 0)


def bound_told(poll, rings):
    """The words of [7.2] on a bound."""
    held = margins_told(poll)
    load = {step: Fraction(0) for step in held}
    for one, second, third, share in rings:
        for step in ((one, second), (second, third), (third, one)):
            load[step] += Fraction(share.num, share.over)
    room = {step: max(held[step], 0) - load[step] for step in held}
    return (sum((Fraction(ring[3].num, ring[3].over) for ring in rings), Fraction(0))
            + sum((min(room[one, other], room[other, one]) for one, other in combinations(poll.options, 2)),
                  Fraction(0)))


def are_rings_told(poll, rings):
    """The words of [7.2] on rings."""
    return type(rings) is list and all(
        type(ring) is tuple and len(ring) == 4 and all(type(name) is str and name in poll.options for name in ring[:3])
        and len(set(ring[:3])) == 3 and type(ring[3]) is Share and ring[3].num >= 0 for ring in rings)


def fraction(share):
    return Fraction(share.num, share.over)


class Cost(unittest.TestCase):
    def test_by_hand(self):
        for order, told in (("abc", 6), ("bca", 2), ("cab", 4), ("acb", 6 + 4), ("bac", 2 + 6), ("cba", 4 + 2)):
            self.assertEqual(cost(RING, tuple(order)), told)
            self.assertEqual(cost(poll=RING, order=tuple(order)), told)
        self.assertEqual(cost(TWO, ("a", "b")), 0)
        self.assertEqual(cost(TWO, ("b", "a")), 3)
        self.assertEqual(cost(ONE, ("a",)), 0)

    def test_all_orders(self):
        for poll in ALL:
            for order in permutations(poll.options):
                told = cost(poll, order)
                self.assertEqual(told, cost_told(poll, order))
                self.assertIs(type(told), int)

    def test_what_is_no_order_is_refused(self):
        for order in (*THINGS, *NO_ORDERS):
            for poll in (RING, NONE):
                with self.subTest(order=order):
                    with self.assertRaises(PollError) as caught:
                        cost(poll, order)
                    self.assertIs(type(caught.exception), BadOrder)


class BestOrders(unittest.TestCase):
    def test_by_hand(self):
        for poll, least, orders in ((RING, 2, ["bca"]), (EVEN_RING, 2, ["cab", "abc", "bca"]), (TWO, 0, ["ab"]),
                                    (ONE, 0, ["a"]), (LINE, 0, ["abc"]),
                                    (NONE, 0, ["bac", "bca", "abc", "acb", "cba", "cab"]),
                                    (Poll(("c", "a")), 0, ["ca", "ac"])):
            with self.subTest(poll=poll):
                self.assertEqual(best_cost(poll), least)
                self.assertEqual(best_cost(poll=poll), least)
                self.assertEqual(sorted(best_orders(poll)), sorted(tuple(order) for order in orders))
                self.assertEqual(best_orders(poll=poll), best_orders(poll))

    def test_against_all_orders_by_their_places(self):
        for poll in ALL:
            costs = {order: cost_told(poll, order) for order in permutations(poll.options)}
            least = min(costs.values())
            orders = sorted((order for order in costs if costs[order] == least),
                            key=lambda order: [poll.options.index(name) for name in order])
            self.assertEqual(best_cost(poll), least)
            self.assertEqual(best_orders(poll), orders)
            self.assertIs(type(best_cost(poll)), int)
            self.assertIs(type(best_orders(poll)), list)

    def test_the_order_that_is_told(self):
        self.assertEqual(best_orders(EVEN_RING), [("c", "a", "b"), ("a", "b", "c"), ("b", "c", "a")])
        self.assertEqual(best_orders(Poll(("c", "a"))), [("c", "a"), ("a", "c")])

    def test_the_told_list_is_the_askers_own(self):
        for poll in ALL[:20]:
            told = best_orders(poll)
            kept = list(told)
            told.clear()
            self.assertEqual(best_orders(poll), kept)


class Bound(unittest.TestCase):
    def test_of_no_rings(self):
        for poll in ALL:
            self.assertEqual(bound(poll, []), Share(0))
        self.assertEqual(bound(poll=RING, rings=[]), Share(0))

    def test_by_hand(self):
        # The ring's rooms are 2, 4 and 6, those of the steps back 0.
        for rings, told in (([("a", "b", "c", Share(1))], Share(1)), ([("b", "c", "a", Share(1))], Share(1)),
                            ([("a", "b", "c", Share(2))], Share(2)), ([("a", "b", "c", Share(7, 3))], Share(2)),
                            ([("a", "b", "c", Share(5))], Share(5 - 3 - 1)),
                            ([("a", "b", "c", Share(8))], Share(8 - 6 - 4 - 2)),
                            ([("a", "b", "c", Share(0))], Share(0)),
                            ([("a", "b", "c", Share(1)), ("a", "b", "c", Share(1, 2))], Share(3, 2)),
                            ([("a", "b", "c", HALF)] * 4, Share(2)), ([("a", "b", "c", HALF)] * 6, Share(2)),
                            ([("a", "c", "b", Share(1))], Share(1 - 3)), ([("c", "b", "a", Share(1, 3))], Share(-2, 3)),
                            ([("a", "b", "c", Share(3)), ("a", "c", "b", Share(1))], Share(4 - 1 - 1 - 1))):
            with self.subTest(rings=rings):
                self.assertEqual(bound(RING, rings), told)
                self.assertEqual(fraction(bound(RING, rings)), bound_told(RING, rings))
                self.assertIs(type(bound(RING, rings)), Share)

    def test_many_rings_of_many_polls(self):
        for at, poll in enumerate(ALL):
            all_rings = list(permutations(poll.options, 3))
            rings = [ring + (Share((5 * place + at) % 7, 1 + (place + at) % 3),) for place,
                     ring in enumerate(all_rings)]
            for told in (rings, rings[::2], rings[::5], rings[3:8], rings[:1] * 3):
                value = bound(poll, told)
                self.assertEqual(fraction(value), bound_told(poll, told))
                self.assertLessEqual(fraction(value), best_cost(poll))

    def test_what_are_no_rings_is_refused(self):
        for rings in (*NO_RINGS, *[thing for thing in THINGS if not (type(thing) is list and thing == [])]):
            for poll in (RING, NONE):
                with self.subTest(rings=rings):
                    with self.assertRaises(PollError) as caught:
                        bound(poll, rings)
                    self.assertIs(type(caught.exception), BadOrder)
                    self.assertIs(shows_best(poll, -100, rings), False)

    def test_no_ring_of_two_options(self):
        for poll in (ONE, TWO):
            self.assertEqual(bound(poll, []), Share(0))
            with self.assertRaises(BadOrder):
                bound(poll, [("a", "b", "c", HALF)])


class BestPaper(unittest.TestCase):
    def test_its_bound_is_the_least_cost(self):
        for poll in ALL:
            with self.subTest(poll=poll):
                paper = best_paper(poll)
                self.assertTrue(are_rings_told(poll, paper))
                self.assertEqual(bound_told(poll, paper), min(cost_told(poll,
                                                                        order) for order in permutations(poll.options)))
                self.assertEqual(bound(poll, paper), Share(best_cost(poll)))

    def test_many_polls_with_rings(self):
        several = 0
        for seed in (72, 73, 74):
            for poll in many_polls(seed, 5, 120, least=3):
                paper = best_paper(poll)
                self.assertTrue(are_rings_told(poll, paper))
                self.assertEqual(bound_told(poll, paper), best_cost(poll))
                several += len(best_orders(poll)) > 1
        self.assertGreater(several, 50)

    def test_all_small_margins_of_four(self):
        pairs = ["ab", "ac", "ad", "bc", "bd", "cd"]
        for number in range(3 ** len(pairs)):
            by = {}
            for at, pair in enumerate(pairs):
                way = number // 3 ** at % 3
                if way:
                    by[pair if way == 1 else pair[::-1]] = 1 + (at + number) % 2
            poll = poll_with("bdac", by)
            self.assertEqual(fraction(bound(poll, best_paper(poll))), best_cost(poll))

    def test_six_options_are_no_error(self):
        for poll in many_polls(75, 6, 6, least=6):
            paper = best_paper(poll)
            self.assertTrue(are_rings_told(poll, paper))
            self.assertLessEqual(bound_told(poll, paper), best_cost(poll))
            self.assertEqual(cost(poll, best_orders(poll)[0]), best_cost(poll))

    def test_by_name_and_without_rings(self):
        self.assertEqual(best_paper(poll=RING), best_paper(RING))
        self.assertIs(type(best_paper(ONE)), list)
        self.assertEqual(bound(TWO, best_paper(TWO)), Share(0))

    def test_told_again_alike_where_the_list_was_changed(self):
        for poll in ALL[:40]:
            told = best_paper(poll)
            shown = repr(told)
            told.append(("a", "b", "c", Share(9)))
            del told[0]
            self.assertEqual(repr(best_paper(poll)), shown)


class ShowsBest(unittest.TestCase):
    def test_just_so_much_or_less(self):
        for poll in ALL:
            least, paper = best_cost(poll), best_paper(poll)
            for number, told in ((least, True), (least - 1, True), (-10 ** 9, True), (least + 1, False),
                                 (10 ** 9, False)):
                self.assertIs(shows_best(poll, number, paper), told)
                self.assertIs(shows_best(poll=poll, number=number, paper=paper), told)

    def test_papers_with_one_thing_otherwise(self):
        for poll in (RING, EVEN_RING, FOUR, ROUND, ROUND_FIVE, LONG_ROUND, *POLLS[:40]):
            least, paper = best_cost(poll), best_paper(poll)
            others = [paper[:at] + paper[at + 1:] for at in range(len(paper))]
            for at, (one, second, third, share) in enumerate(paper):
                for ring in ((one, third, second, share), (second, third, one, share),
                             (one, second, third, share.times(HALF)),
                             (one, second, third, share.plus(HALF)), (one, second, third, Share(-1)),
                             (one, second, third, share.num), (one, second, share), [one, second, third, share],
                             (one, second, second, share), (one, second, "zz", share),
                             (one, second, third, share, share)):
                    others.append(paper[:at] + [ring] + paper[at + 1:])
            others += [paper + paper, [], tuple(paper), paper + [None], None]
            for other in others:
                told = are_rings_told(poll, other) and bound_told(poll, other) >= least
                with self.subTest(poll=poll, other=other):
                    self.assertIs(shows_best(poll, least, other), told)

    def test_a_bound_that_is_no_whole_number(self):
        rings = [("a", "b", "c", Share(3, 2))]
        self.assertEqual(bound(RING, rings), Share(3, 2))
        self.assertIs(shows_best(RING, 1, rings), True)
        self.assertIs(shows_best(RING, 2, rings), False)
        rings = [("a", "c", "b", HALF)]
        self.assertEqual(bound(RING, rings), Share(-1))
        self.assertIs(shows_best(RING, -1, rings), True)
        self.assertIs(shows_best(RING, 0, rings), False)

    def test_what_is_no_whole_number(self):
        for number in (True, False, 1.0, "0", None, [0], Share(0), Share(-5), EqualToAll(), (0,)):
            with self.subTest(number=number):
                self.assertIs(shows_best(RING, number, best_paper(RING)), False)
                self.assertIs(shows_best(RING, number, []), False)

    def test_things_of_any_kind(self):
        for thing in THINGS:
            for poll in (RING, NONE, ONE):
                for paper in (thing, [thing], [("a", "b", "c", thing)], [(thing, "b", "c", HALF)], [(thing,) * 4],
                              [GOOD_RING, thing]):
                    with self.subTest(poll=poll, paper=paper):
                        told = are_rings_told(poll, paper) and bound_told(poll, paper) >= -9
                        self.assertIs(shows_best(poll, -9, paper), told)

    def test_the_paper_stays_as_it_was(self):
        for poll in (RING, FOUR, ROUND_FIVE):
            paper, shown = best_paper(poll), repr((poll, best_paper(poll)))
            shows_best(poll, best_cost(poll), paper)
            bound(poll, paper)
            self.assertEqual(repr((poll, paper)), shown)


if __name__ == "__main__":
    unittest.main()
