"""[6.1], [6.3], and of [4.3] what an order of ties is."""

import unittest
from itertools import combinations, permutations

from tests.samples import THINGS, EqualToAll, many_polls, margins_told, poll_of, poll_with
from voicefold.errors import BadOrder, NoOption, PollError
from voicefold.polls import Poll
from voicefold.shares import Share
from voicefold.ways import pairs_order, shows_stands, shows_strength, strength, strength_paper

POLLS = many_polls(61, 6, 120, least=2)
# Margins are twice the numbers: a over b 2, b over c 4, c over a 6.
RING = poll_with("abc", {"ab": 1, "bc": 2, "ca": 3})
LINE = poll_with("cab", {"ab": 1, "bc": 2, "ac": 3})
EVEN_RING = poll_with("cab", {"ab": 1, "bc": 1, "ca": 1})
NONE = Poll(("b", "a", "c"))
TWO = poll_of("ba", "ab 5", "ba 2")
ONE = Poll(("a",), ((("lets", ()), 3),))
FOUR = poll_with("dacb", {"ab": 3, "bc": 2, "cd": 4, "da": 1, "ca": 5, "bd": 2})
ALL = (RING, LINE, EVEN_RING, NONE, TWO, FOUR, *POLLS)


def ways_between(options, one, other):
    """All ways from one option to another one."""
    rest = [name for name in options if name not in (one, other)]
    for many in range(len(rest) + 1):
        for between in permutations(rest, many):
            yield (one, *between, other)


def strong(held, way):
    return min(held[step] for step in zip(way, way[1:]))


def strength_told(poll, one, other):
    """The words of [6.1], going through all ways."""
    held = margins_told(poll)
    return max(strong(held, way) for way in ways_between(poll.options, one, other))


def is_strength_told(poll, one, other, number, paper):
    """The words of [6.1] on a paper."""
    held = margins_told(poll)
    if type(paper) is not tuple or len(paper) != 2 or type(number) is not int:
        return False
    way, lot = paper
    if type(way) is not tuple or type(lot) is not list or one == other:
        return False
    for told in (way, lot):
        if not all(type(name) is str and name in poll.options for name in told) or len(set(told)) != len(told):
            return False
    if not way or way[0] != one or way[-1] != other or one not in lot or other in lot:
        return False
    outside = [name for name in poll.options if name not in lot]
    return strong(held, way) == number and all(held[name, far] <= number for name in lot for far in outside)


def stands_told(poll, order):
    """The words of [6.3] on an order that stands, going through all ways."""
    held = margins_told(poll)
    for earlier, later in combinations(order, 2):
        by = held[later, earlier]
        between = order[order.index(earlier):order.index(later) + 1]
        ways = [way for way in ways_between(between, earlier, later) if list(way) == sorted(way, key=order.index)]
        if by > 0 and not any(strong(held, way) >= by for way in ways):
            return False
    return True


def pairs_told(poll, ties):
    """The words of [6.3] on the order found by pairs."""
    held = margins_told(poll)
    pairs = [pair for pair in permutations(ties, 2) if held[pair] > 0]
    pairs = sorted(pairs, key=lambda pair: (-held[pair], ties.index(pair[0]), ties.index(pair[1])))
    kept = []
    for one, other in pairs:
        reached = {other}
        for _ in ties:
            reached |= {far for near, far in kept if near in reached}
        if one not in reached:
            kept.append((one, other))
    left, found = list(ties), []
    while left:
        found.append(next(name for name in left if not any((above, name) in kept for above in left)))
        left.remove(found[-1])
    return tuple(found)


class Strength(unittest.TestCase):
    def test_by_hand(self):
        for poll, one, other, told in ((RING, "a", "b", 2), (RING, "b", "a", 4), (RING, "b", "c", 4),
                                       (RING, "c", "b", 2), (RING, "a", "c", 2), (RING, "c", "a", 6),
                                       (LINE, "c", "a", -4), (LINE, "b", "a", -2), (LINE, "c", "b", -4),
                                       (LINE, "a", "c", 6), (TWO, "a", "b", 3), (TWO, "b", "a", -3),
                                       (NONE, "a", "b", 0), (FOUR, "a", "d", 4), (FOUR, "d", "a", 2),
                                       (FOUR, "c", "b", 6)):
            with self.subTest(poll=poll, one=one, other=other):
                self.assertEqual(strength(poll, one, other), told)
                self.assertEqual(strength(poll=poll, one=one, other=other), told)

    def test_against_all_ways(self):
        for poll in ALL:
            for one, other in permutations(poll.options, 2):
                told = strength(poll, one, other)
                self.assertEqual(told, strength_told(poll, one, other))
                self.assertIs(type(told), int)

    def test_below_nought_there_are_some(self):
        told = [strength(poll, one, other) for poll in ALL for one, other in permutations(poll.options, 2)]
        self.assertTrue(min(told) < 0 < max(told))

    def test_the_first_that_is_none_is_refused(self):
        asked_of = (strength, strength_paper, lambda poll, one, other: shows_strength(poll, one, other, 2, None),
                    lambda poll, one, other: shows_strength(poll, one, other, None, (("a", "b"), ["a"])))
        for thing in (*THINGS, "d", "ab", "", ["a"], ("a",)):
            for asked in asked_of:
                for one, other, told in ((thing, "a", thing), ("a", thing, thing), (thing, "d", thing),
                                         ("e", thing, "e")):
                    with self.subTest(one=one, other=other):
                        with self.assertRaises(NoOption) as caught:
                            asked(RING, one, other)
                        self.assertIs(caught.exception.name, told)


class StrengthPaper(unittest.TestCase):
    def test_gone_through_by_the_words(self):
        for poll in ALL:
            for one, other in permutations(poll.options, 2):
                number, paper = strength(poll, one, other), strength_paper(poll, one, other)
                self.assertTrue(is_strength_told(poll, one, other, number, paper))
                self.assertIs(shows_strength(poll, one, other, number, paper), True)
                self.assertIs(shows_strength(poll, one, other, number + 1, paper), False)
                self.assertIs(shows_strength(poll, one, other, number - 1, paper), False)

    def test_by_names(self):
        paper = strength_paper(poll=RING, one="a", other="c")
        self.assertIs(shows_strength(poll=RING, one="a", other="c", number=2, paper=paper), True)

    def test_told_again_alike_where_the_list_was_emptied(self):
        for poll in ALL[:20]:
            for one, other in permutations(poll.options, 2):
                told = strength_paper(poll, one, other)
                shown = repr(told)
                told[1].clear()
                self.assertEqual(repr(strength_paper(poll, one, other)), shown)

    def test_what_is_no_whole_number(self):
        paper = (("a", "b"), ["a"])
        by_one = poll_of("ab", "ab 3", "ba 2")
        self.assertIs(shows_strength(by_one, "a", "b", 1, paper), True)
        for number in (True, 1.0, "1", None, [1], Share(1), EqualToAll(), (1,)):
            with self.subTest(number=number):
                self.assertIs(shows_strength(by_one, "a", "b", number, paper), False)
        even = poll_of("ab", "ab 2", "ba 2")
        self.assertIs(shows_strength(even, "a", "b", 0, paper), True)
        self.assertIs(shows_strength(even, "a", "b", False, paper), False)

    def test_all_ways_and_lots(self):
        for poll in (RING, LINE, EVEN_RING, NONE, TWO, FOUR):
            lots = [list(lot) for many in range(len(poll.options) + 1) for lot in combinations(poll.options, many)]
            ways = [way for many in range(len(poll.options) + 1) for way in permutations(poll.options, many)]
            for one, other in permutations(poll.options, 2):
                number = strength(poll, one, other)
                for way in ways:
                    for lot in lots:
                        paper = (way, lot)
                        for at in (number, number - 2, number + 2):
                            told = is_strength_told(poll, one, other, at, paper)
                            self.assertIs(shows_strength(poll, one, other, at, paper), told)

    def test_papers_with_one_thing_otherwise(self):
        # The strongest way from a to c is over b, by 2; b has 4 over c, so that it can't stand in the lot.
        way, lot = ("a", "b", "c"), ["a"]
        self.assertIs(shows_strength(RING, "a", "c", 2, (way, lot)), True)
        for paper in ((way, lot, None), (way,), (), [way, lot], (lot, way), (list(way), lot), (way, tuple(lot)),
                      (way, "a"),
                      (way, {"a": 1}), (way, {"a"}), ("abc", lot), (way, None), (None, lot), None, way, lot,
                      (("a", "c"), lot), (("c", "b", "a"), lot), (("a", "b"), lot), (("b", "c"), lot), (("c",), lot),
                      (("a",), lot), ((), lot), (("a", "b", "b", "c"), lot), (("a", "b", "a", "b", "c"), lot),
                      (("a", "d", "c"), lot), (("a", None, "c"), lot), (("a", ["b"], "c"), lot),
                      (("a", EqualToAll(), "c"), lot), ((EqualToAll(),) * 2, lot), (EqualToAll(), lot),
                      (way, []), (way, ["b"]), (way, ["a", "b"]), (way, ["a", "a"]), (way, ["a", "c"]),
                      (way, ["a", "d"]),
                      (way, ["a", "b", "c"]), (way, [EqualToAll()]), (way, ["a", None]), (way, [["a"]]),
                      (way, EqualToAll())):
            with self.subTest(paper=paper):
                self.assertIs(shows_strength(RING, "a", "c", 2, paper), False)

    def test_lots_too_small_and_too_great(self):
        # a has 6 over b, b has 4 over both others, and c has 8 over d.
        self.assertEqual(strength(FOUR, "a", "d"), 4)
        way = ("a", "b", "d")
        for lot, told in ((["a", "b"], True), (["b", "a"], True), (["a"], False), (["a", "b", "c"], False),
                          (["b"], False),
                          (["a", "b", "d"], False), (["a", "c"], False)):
            with self.subTest(lot=lot):
                self.assertIs(shows_strength(FOUR, "a", "d", 4, (way, lot)), told)

    def test_things_of_any_kind(self):
        for thing in THINGS:
            for paper in (thing, (thing, ["a"]), (("a", "b"), thing), (("a", thing), ["a"]), (("a", "b"), ["a", thing]),
                          (("a", "b"), [thing]), (thing, thing)):
                with self.subTest(paper=paper):
                    self.assertIs(shows_strength(RING, "a", "b", 2, paper), False)
            if type(thing) is not int:
                self.assertIs(shows_strength(RING, "a", "b", thing, (("a", "b"), ["a"])), False)

    def test_the_paper_stays_as_it_was(self):
        paper = strength_paper(FOUR, "a", "d")
        shown = repr(paper)
        shows_strength(FOUR, "a", "d", 4, paper)
        self.assertEqual(repr(paper), shown)


class PairsOrder(unittest.TestCase):
    def test_by_hand(self):
        # The weakest pair of the ring is left out.
        self.assertEqual(pairs_order(RING), ("b", "c", "a"))
        self.assertEqual(pairs_order(LINE), ("a", "b", "c"))
        self.assertEqual(pairs_order(NONE), ("b", "a", "c"))
        self.assertEqual(pairs_order(ONE), ("a",))
        self.assertEqual(pairs_order(TWO), ("a", "b"))
        self.assertEqual(pairs_order(poll=TWO), ("a", "b"))
        # Alike margins: ca is looked at first, as c stands first, then ab; bc is left out.
        self.assertEqual(pairs_order(EVEN_RING), ("c", "a", "b"))

    def test_with_ties(self):
        self.assertEqual(pairs_order(EVEN_RING, ties=("a", "b", "c")), ("a", "b", "c"))
        self.assertEqual(pairs_order(EVEN_RING, ties=("b", "a", "c")), ("a", "b", "c"))
        self.assertEqual(pairs_order(EVEN_RING, ties=("c", "b", "a")), ("b", "c", "a"))
        self.assertEqual(pairs_order(EVEN_RING, ties=()), ("c", "a", "b"))
        self.assertEqual(pairs_order(NONE, ties=("c", "a", "b")), ("c", "a", "b"))
        self.assertEqual(pairs_order(RING, ties=("c", "b", "a")), ("b", "c", "a"))

    def test_many_polls_by_the_words(self):
        for poll in ALL:
            self.assertEqual(pairs_order(poll), pairs_told(poll, poll.options))
            for ties in (poll.options[::-1], tuple(sorted(poll.options)), poll.options[1:] + poll.options[:1],
                         poll.options):
                told = pairs_order(poll, ties=ties)
                self.assertEqual(told, pairs_told(poll, ties))
                self.assertIs(type(told), tuple)

    def test_all_ties_of_small_polls(self):
        for poll in (RING, LINE, EVEN_RING, NONE, TWO, FOUR):
            for ties in permutations(poll.options):
                self.assertEqual(pairs_order(poll, ties=ties), pairs_told(poll, ties))

    def test_ties_that_are_none_are_refused(self):
        for ties in (*[thing for thing in THINGS if thing != ()], ["a", "b", "c"], [], "abc", ("a", "b"),
                     ("a", "b", "c", "d"),
                     ("a", "b", "b"), ("a", "a", "b", "c"), ("a", "b", "d"), ("a", "b", None), ("a", "b", ["c"]),
                     ("a", "b", EqualToAll()), ("a", "b", 1), {"a": 1, "b": 2, "c": 3}, {"a", "b", "c"}, ("abc",),
                     (("a", "b", "c"),), EqualToAll()):
            for poll in (RING, NONE):
                with self.subTest(ties=ties):
                    with self.assertRaises(PollError) as caught:
                        pairs_order(poll, ties=ties)
                    self.assertIs(type(caught.exception), BadOrder)

    def test_ties_by_their_name_alone(self):
        with self.assertRaises(TypeError):
            pairs_order(RING, ("a", "b", "c"))


class Stands(unittest.TestCase):
    def test_by_hand(self):
        # In b, c, a: a beats b by 2, and b leads over c to a by 4.
        self.assertIs(shows_stands(RING, ("b", "c", "a")), True)
        # In a, b, c: c beats a by 6, and a leads over b to c by 2 alone.
        self.assertIs(shows_stands(RING, ("a", "b", "c")), False)
        self.assertIs(shows_stands(RING, ("c", "a", "b")), False)
        self.assertIs(shows_stands(poll=RING, order=("b", "a", "c")), False)
        # Just as strong is strong enough.
        self.assertIs(shows_stands(EVEN_RING, ("a", "b", "c")), True)
        self.assertIs(shows_stands(EVEN_RING, ("b", "c", "a")), True)
        self.assertIs(shows_stands(EVEN_RING, ("c", "b", "a")), False)
        self.assertIs(shows_stands(ONE, ("a",)), True)
        for order in permutations("abc"):
            self.assertIs(shows_stands(NONE, order), True)

    def test_all_orders_against_all_ways(self):
        count = 0
        for poll in ALL:
            if len(poll.options) <= 4:
                for order in permutations(poll.options):
                    told = shows_stands(poll, order)
                    self.assertIs(told, stands_told(poll, order))
                    count += told
        self.assertGreater(count, 100)

    def test_five_and_six_options(self):
        for poll in [poll for poll in ALL if len(poll.options) > 4][:30]:
            for order in list(permutations(poll.options))[::17]:
                self.assertIs(shows_stands(poll, order), stands_told(poll, order))

    def test_the_order_found_by_pairs_stands(self):
        for poll in ALL:
            for ties in ((), poll.options[::-1], poll.options[2:] + poll.options[:2]):
                self.assertIs(shows_stands(poll, pairs_order(poll, ties=ties)), True)

    def test_what_is_no_order(self):
        for poll in (RING, NONE):
            for order in (*THINGS, ["b", "c", "a"], "bca", ("b", "c"), ("b", "c", "a", "a"), ("b", "c", "c"),
                          ("b", "c", "d"),
                          ("b", "c", "a", "d"), ("b", "c", None), ("b", "c", ["a"]), ("b", "c", EqualToAll()), (),
                          (("b", "c", "a"),), {"b": 1, "c": 2, "a": 3}, EqualToAll(), ("bca",), ("b", "c", 0)):
                with self.subTest(order=order):
                    self.assertIs(shows_stands(poll, order), False)
        for thing in THINGS:
            self.assertIs(shows_stands(ONE, thing), False)


class Kept(unittest.TestCase):
    def test_the_poll_stays_as_it_was(self):
        for poll in (RING, LINE, EVEN_RING, NONE, TWO, FOUR):
            shown = repr(poll)
            for one, other in permutations(poll.options, 2):
                strength(poll, one, other), strength_paper(poll, one, other)
            shows_stands(poll, pairs_order(poll, ties=poll.options[::-1]))
            self.assertEqual(repr(poll), shown)
            self.assertEqual(pairs_order(poll), pairs_order(poll))


if __name__ == "__main__":
    unittest.main()
