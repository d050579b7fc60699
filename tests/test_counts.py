"""[4.1], [4.2]: margins, first and last places, lets, points and weights."""

import unittest
from fractions import Fraction
from itertools import permutations, product
from random import Random

from tests.samples import THINGS, EqualToAll, ahead_told, many_polls, margin_told, poll_of
from voicefold.ballots import tiers
from voicefold.counts import firsts, lasts, lets, margin, margins, points, weighed
from voicefold.errors import BadRule, NoOption, PollError
from voicefold.polls import Poll
from voicefold.shares import Share

# All three forms; of the voices 2 + 3 have b alone first, 5 have a alone first, 7 none alone.
MIXED = Poll(("c", "a", "b"), (
    (("order", (("b",), ("a",), ("c",))), 2),
    (("marks", (("b", 9), ("c", 1), ("a", 0))), 3),
    (("lets", ("a",)), 5),
    (("lets", ("c", "b")), 7),
    (("order", (("a", "c"),)), 11),
    (("marks", ()), 13),
    (("order", ()), 17),
))
NONE = Poll(("c", "a", "b"))
ONE = Poll(("a",), ((("order", (("a",),)), 2), (("lets", ()), 3), (("marks", (("a", 0),)), 4),
                    (("marks", (("a", 1),)), 5)))

POLLS = many_polls(41, 6, 150)


def fields(told):
    """A dict of shares, as fractions."""
    return {name: Fraction(share.num, share.over) for name, share in told.items()}


class Margin(unittest.TestCase):
    def test_gone_through_by_hand(self):
        # b ahead of a: 2 + 3 + 7; a ahead of b: 5 + 11.
        self.assertEqual(margin(MIXED, "b", "a"), 12 - 16)
        self.assertEqual(margin(MIXED, "a", "b"), 16 - 12)
        # b ahead of c: 2 + 3; c ahead of b: 11.
        self.assertEqual(margin(MIXED, "b", "c"), 5 - 11)
        # a ahead of c: 2 + 5; c ahead of a: 3 + 7.
        self.assertEqual(margin(MIXED, "a", "c"), 7 - 10)
        self.assertEqual(margin(poll=MIXED, one="c", other="b"), 6)
        self.assertEqual(margin(other="a", one="c", poll=MIXED), 3)

    def test_many_polls_by_the_words(self):
        for poll in POLLS:
            for one, other in product(poll.options, repeat=2):
                told = margin(poll, one, other)
                self.assertEqual(told, margin_told(poll, one, other))
                self.assertEqual(told, -margin(poll, other, one))
                self.assertIs(type(told), int)

    def test_over_itself(self):
        for poll in (MIXED, NONE, ONE):
            for name in poll.options:
                self.assertEqual(margin(poll, name, name), 0)

    def test_the_first_that_is_none_is_refused(self):
        for thing in (*THINGS, "d", "ab", "", ["a"], ("a",)):
            for poll in (MIXED, NONE):
                for one, other, told in ((thing, "a", thing), ("a", thing, thing), (thing, "d", thing),
                                         ("e", thing, "e")):
                    with self.subTest(one=one, other=other):
                        with self.assertRaises(NoOption) as caught:
                            margin(poll, one, other)
                        self.assertIs(caught.exception.name, told)


class Margins(unittest.TestCase):
    def test_gone_through_by_hand(self):
        self.assertEqual(list(margins(MIXED).items()), [(("c", "a"), 3), (("c", "b"), 6), (("a", "c"), -3),
                                                        (("a", "b"), 4), (("b", "c"), -6), (("b", "a"), -4)])
        self.assertEqual(margins(poll=Poll(("b", "a"))), {("b", "a"): 0, ("a", "b"): 0})
        self.assertEqual(margins(ONE), {})

    def test_many_polls(self):
        for poll in POLLS:
            pairs = [(one, other) for one in poll.options for other in poll.options if one != other]
            told = margins(poll)
            self.assertEqual(list(told), pairs)
            self.assertEqual(list(told.values()), [margin_told(poll, one, other) for one, other in pairs])


class Counts(unittest.TestCase):
    def told(self, asked, poll, numbers):
        self.assertEqual(list(asked(poll).items()), list(zip(poll.options, numbers)))
        self.assertEqual(asked(poll=poll), asked(poll))

    def test_firsts(self):
        self.told(firsts, MIXED, [0, 5, 5])
        self.told(firsts, NONE, [0, 0, 0])
        self.told(firsts, ONE, [14])

    def test_lasts(self):
        # c by the first row, a by the marks and by two let by, b by the order that doesn't name it.
        self.told(lasts, MIXED, [2, 10, 11])
        self.told(lasts, NONE, [0, 0, 0])
        self.told(lasts, ONE, [14])

    def test_lets(self):
        # The order's last one counts too; a mark 0 doesn't.
        self.told(lets, MIXED, [2 + 3 + 7 + 11, 2 + 5 + 11, 2 + 3 + 7])
        self.told(lets, NONE, [0, 0, 0])
        self.told(lets, ONE, [7])

    def test_points(self):
        self.told(points, MIXED, [3 + 6, -3 + 4, -6 - 4])
        self.told(points, NONE, [0, 0, 0])
        self.told(points, ONE, [0])

    def test_an_order_whose_last_tier_it_names(self):
        poll = Poll(("a", "b", "c"), ((("order", (("b",), ("a",), ("c",))), 1), (("order", (("b",), ("a",))), 2),
                                      (("order", (("a",), ("c", "b"))), 4), (("order", (("a",),)), 8)))
        self.told(lasts, poll, [0, 0, 3])
        self.told(firsts, poll, [12, 3, 0])
        self.told(lets, poll, [15, 7, 5])

    def test_many_polls_by_the_words(self):
        for poll in POLLS:
            first = {name: 0 for name in poll.options}
            last, passed, ahead = dict(first), dict(first), dict(first)
            for ballot, many in poll.voices:
                told = tiers(poll.options, ballot)
                for name in poll.options:
                    first[name] += many * (told[0] == (name,))
                    last[name] += many * (told[-1] == (name,))
                    passed[name] += many * self.lets_by(ballot, name)
                    ahead[name] += many * sum(ahead_told(ballot, name, other) - ahead_told(ballot, other, name)
                                              for other in poll.options)
            for asked, numbers in ((firsts, first), (lasts, last), (lets, passed), (points, ahead)):
                self.assertEqual(list(asked(poll).items()), list(numbers.items()))

    def lets_by(self, ballot, name):
        form, told = ballot
        if form == "order":
            return any(name in tier for tier in told)
        if form == "lets":
            return name in told
        return any(pair[0] == name and pair[1] > 0 for pair in told)


class Weighed(unittest.TestCase):
    def test_ties_of_two_and_three_by_hand(self):
        poll = Poll(("a", "b", "c", "d"), ((("order", (("b", "d"), ("a",))), 3), (("lets", ("c",)), 2),
                                           (("marks", (("a", 9), ("b", 9), ("c", 9))), 1)))
        told = weighed(poll, (10, 5, 5, 1))
        # b and d have (10 + 5) / 2, a 5, c 1; then c 10, the others (5 + 5 + 1) / 3; then d 1, the others 20 / 3.
        self.assertEqual(list(told), ["a", "b", "c", "d"])
        self.assertEqual(fields(told), {
            "a": 3 * 5 + Fraction(2 * 11, 3) + Fraction(20, 3),
            "b": Fraction(3 * 15, 2) + Fraction(2 * 11, 3) + Fraction(20, 3),
            "c": 3 * 1 + 2 * 10 + Fraction(20, 3),
            "d": Fraction(3 * 15, 2) + Fraction(2 * 11, 3) + 1,
        })
        self.assertEqual(told["b"], Share(219, 6))
        self.assertEqual(weighed(poll=poll, weights=(10, 5, 5, 1)), told)

    def test_kinds_of_weights(self):
        poll = poll_of("cab", "abc 3", "bca 2", "cab 4")
        for weights, numbers in (((2, 1, 0), [2 + 8, 6 + 4, 3 + 4]), ((1, 1, 1), [9, 9, 9]), ((1, 0, 0), [4, 3, 2]),
                                 ((0, 0, 0), [0, 0, 0]), ((0, 0, -1), [-3, -2, -4]),
                                 ((-1, -2, -5), [-4 - 4 - 15, -3 - 8 - 10, -2 - 6 - 20]),
                                 ((10 ** 40, 1, -10 ** 40), [4 * 10 ** 40 + 2 - 3 * 10 ** 40,
                                                             3 * 10 ** 40 + 4 - 2 * 10 ** 40,
                                                             2 * 10 ** 40 + 3 - 4 * 10 ** 40])):
            with self.subTest(weights=weights):
                told = weighed(poll, weights)
                self.assertEqual(list(told), ["c", "a", "b"])
                self.assertEqual(list(told.values()), [Share(number) for number in numbers])

    def test_without_voices_and_of_a_single_option(self):
        self.assertEqual(weighed(NONE, (3, 2, 1)), {"c": Share(0), "a": Share(0), "b": Share(0)})
        self.assertEqual(weighed(ONE, (-3,)), {"a": Share(-42)})

    def test_many_polls_are_gone_through(self):
        chance = Random(42)
        for poll in POLLS:
            weights = tuple(sorted((chance.randint(-9, 9) for _ in poll.options), reverse=True))
            numbers = {name: Fraction(0) for name in poll.options}
            for ballot, many in poll.voices:
                left = list(weights)
                for tier in tiers(poll.options, ballot):
                    mine, left = left[:len(tier)], left[len(tier):]
                    for name in tier:
                        numbers[name] += Fraction(sum(mine), len(mine)) * many
            told = weighed(poll, weights)
            self.assertEqual(list(fields(told).items()), list(numbers.items()))
            self.assertTrue(all(type(share) is Share for share in told.values()))

    def test_what_are_none_is_refused(self):
        for weights in (*THINGS, (), (3, 2), (3, 2, 1, 0), (1, 2, 3), (3, 1, 2), (2, 3, 1), (0, 0, 1), (-1, 0, 0),
                        (True, 0, 0), (1, True, 0), (1, 0, False), (True, True, True), ("3", 2, 1), ("c", "b", "a"),
                        "cba",
                        (3, 2, None), (3, None, 1), (3.0, 2.0, 1.0), [3, 2, 1], {3: 1, 2: 1, 1: 1}, (3, 2, []),
                        ((3, 2, 1),),
                        (Share(3), Share(2), Share(1)), (EqualToAll(), EqualToAll(), EqualToAll()), range(3)):
            for poll in (MIXED, NONE):
                with self.subTest(weights=weights):
                    with self.assertRaises(PollError) as caught:
                        weighed(poll, weights)
                    self.assertIs(type(caught.exception), BadRule)

    def test_all_small_weights(self):
        poll = poll_of("ab", "ab 1")
        for weights in product(range(-2, 3), repeat=2):
            if weights[0] >= weights[1]:
                self.assertEqual(list(weighed(poll, weights).values()), [Share(weights[0]), Share(weights[1])])
            else:
                with self.assertRaises(BadRule):
                    weighed(poll, weights)


class Kept(unittest.TestCase):
    ASKED = (margins, firsts, lasts, lets, points, lambda poll: weighed(poll, tuple(range(len(poll.options), 0, -1))))

    def test_told_may_be_changed_by_the_asker(self):
        for poll in (MIXED, NONE, ONE, *POLLS[:20]):
            for asked in self.ASKED:
                first = asked(poll)
                kept = dict(first)
                first.clear()
                first["zz"] = 3
                again = asked(poll)
                self.assertIsNot(again, first)
                self.assertEqual(list(again.items()), list(kept.items()))

    def test_the_poll_stays_as_it_was(self):
        for poll in (MIXED, NONE, ONE, *POLLS[:20]):
            shown = repr(poll)
            for asked in self.ASKED:
                asked(poll)
            self.assertEqual(repr(poll), shown)

    def test_equal_polls_have_the_same_counts(self):
        for options in permutations("abc"):
            one = Poll(options, ((("lets", ("a",)), 2), (("order", (("b",), ("c", "a"))), 1)))
            other = Poll(options, ((("marks", (("b", 3),)), 1), (("order", (("a",), ("c", "b"))), 2)))
            self.assertEqual(one, other)
            for asked in (margins, firsts, lasts, points, lambda poll: weighed(poll, (5, 2, 0))):
                self.assertEqual(asked(one), asked(other))


if __name__ == "__main__":
    unittest.main()
