"""[4.3], [6.2]: rules, lots and ends."""

import unittest
from itertools import permutations, product
from random import Random

from tests.samples import THINGS, EqualToAll, LONG_NAMES, many_polls, poll_of, poll_with, ringed_poll
from tests.told import NO_RULES, WORDS, end_told, lot_told, rules_for, strongest_told, weights_for, weights_told
from voicefold.errors import BadOrder, BadRule, PollError
from voicefold.polls import Poll
from voicefold.rules import RULES, end, lot
from voicefold.shares import Share

POLLS = many_polls(43, 5, 150)
GREAT_POLLS = many_polls(44, 6, 40, least=6)
RING = poll_with("abc", {"ab": 1, "bc": 2, "ca": 3})
EVEN_RING = poll_with("cab", {"ab": 1, "bc": 1, "ca": 1})
LINE = poll_with("cab", {"ab": 1, "bc": 2, "ac": 3})
NONE = Poll(("b", "a", "c"))
ONE = Poll(("a",), ((("lets", ()), 3),))
NO_VOICES = tuple(Poll(tuple("fadbce"[:many])) for many in range(1, 6))
ALIKE = tuple(Poll(tuple("dbca"[:many]), ((ballot, 4),)) for many in range(1, 5)
              for ballot in (("order", ()), ("lets", tuple("dbca"[:many])), ("marks", ()),
                             ("order", (tuple("dbca"[:many]),))))
FOUR = poll_with("dacb", {"ab": 3, "bc": 2, "cd": 4, "da": 1, "ca": 5, "bd": 2})
FIVE_RING = poll_with("eabcd",
                      {"ab": 3, "bc": 3, "cd": 3, "de": 3, "ea": 3, "ac": 1, "bd": 1, "ce": 1, "da": 1, "eb": 1})
ALL = (RING, EVEN_RING, LINE, NONE, ONE, FOUR, FIVE_RING, *NO_VOICES, *ALIKE, *POLLS)

# c has most first places, a wins by wins and ways, b by lets.
MIXED = Poll(("c", "a", "b"), (
    (("order", (("c",), ("a",), ("b",))), 4),
    (("order", (("a",), ("b",))), 3),
    (("order", (("b",), ("a",))), 2),
    (("marks", (("b", 4),)), 1),
    (("lets", ("a", "b")), 1),
))


class Rules(unittest.TestCase):
    def test_the_eleven_words_in_their_order(self):
        self.assertEqual(RULES, ("firsts", "lasts", "points", "lets", "wins", "losses", "ways", "best", "top",
                                 "uncovered", "rounds"))
        self.assertIs(type(RULES), tuple)
        self.assertEqual(RULES, WORDS)

    def test_by_hand(self):
        # First: c 4, a 3, b 3. Last: c 3 + 2 + 1, b 4. a over b 7 to 3, a over c 6 to 4, b over c 7 to 4.
        for rule, told in (("firsts", ["c"]), ("lasts", ["a"]), ("points", ["a"]), ("lets", ["b"]), ("wins", ["a"]),
                           ("losses", ["a"]), ("ways", ["a"]), ("best", ["a"]), ("top", ["a"]), ("uncovered", ["a"]),
                           ("rounds", ["a", "b"]), (("weights", (1, 0, 0)), ["c"]), (("weights", (2, 1, 0)), ["a"]),
                           (("weights", (1, 1, 0)), ["a"]), (("weights", (0, 0, 0)), ["c", "a", "b"])):
            with self.subTest(rule=rule):
                self.assertEqual(lot(MIXED, rule), told)
                self.assertEqual(lot(poll=MIXED, rule=rule), told)
                self.assertEqual(end(MIXED, rule), told[0])
                self.assertEqual(end(poll=MIXED, rule=rule, ties=()), told[0])

    def test_of_a_ring_by_hand(self):
        # a over b 2, b over c 4, c over a 6.
        for rule, told in (("points", ["b", "c"]), ("wins", ["a", "b", "c"]), ("losses", ["b"]), ("ways", ["b"]),
                           ("best", ["b"]), ("top", ["a", "b", "c"]), ("uncovered", ["a", "b", "c"])):
            with self.subTest(rule=rule):
                self.assertEqual(lot(RING, rule), told)

    def test_losses_counts_the_least_of_margins_below_nought_too(self):
        # a is beaten by none, b by none either: the others' greatest margin over a is -2, over b 0.
        poll = poll_with("bacd", {"ab": 1, "ac": 1, "ad": 1})
        self.assertEqual(lot(poll, "losses"), ["a"])
        self.assertEqual(lot(poll_with("ba", {"ab": 1}), "losses"), ["a"])
        self.assertEqual(lot(ONE, "losses"), ["a"])


class Lot(unittest.TestCase):
    def test_against_going_ballot_by_ballot(self):
        for poll in ALL:
            for rule in rules_for(poll.options):
                told = lot(poll, rule)
                self.assertEqual(told, lot_told(poll, rule), (poll, rule))
                self.assertIs(type(told), list)
                self.assertTrue(told)

    def test_of_six_options(self):
        for poll in (*GREAT_POLLS, Poll(LONG_NAMES)):
            for rule in rules_for(poll.options):
                if rule != "best":
                    self.assertEqual(lot(poll, rule), lot_told(poll, rule), (poll, rule))

    def test_best_of_six_options_raises_no_error(self):
        self.assertIs(type(lot(GREAT_POLLS[0], "best")), list)

    def test_of_no_voices_and_of_all_alike_all_win(self):
        for poll in (*NO_VOICES, *ALIKE):
            for rule in rules_for(poll.options):
                if isinstance(rule, str):
                    self.assertEqual(lot(poll, rule), list(poll.options))
                self.assertEqual(end(poll, rule), poll.options[0])

    def test_the_answers_of_the_words_differ(self):
        answers = {word: [tuple(lot(poll, word)) for poll in ALL] for word in WORDS}
        self.assertEqual(len(set(map(tuple, answers.values()))), len(WORDS))

    def test_the_told_list_is_the_askers_own(self):
        for poll in ALL[:60]:
            for rule in rules_for(poll.options):
                first = lot(poll, rule)
                kept = list(first)
                first.reverse()
                first.clear()
                self.assertEqual(lot(poll, rule), kept)

    def test_the_poll_stays(self):
        for poll in ALL[:60]:
            shown = repr(poll)
            for rule in rules_for(poll.options):
                lot(poll, rule)
                end(poll, rule, ties=poll.options[::-1])
            self.assertEqual(repr(poll), shown)


class Ways(unittest.TestCase):
    def test_against_going_through_all_ways(self):
        chance = Random(62)
        polls = [ringed_poll(chance, 6, least=2, by=4) for _ in range(60)]
        for poll in (*polls, *GREAT_POLLS, *POLLS):
            strong = {pair: strongest_told(poll, *pair) for pair in permutations(poll.options, 2)}
            told = [one for one in poll.options
                    if all(strong[one, other] >= strong[other, one] for other in poll.options if other != one)]
            self.assertTrue(told)
            self.assertEqual(lot(poll, "ways"), told)

    def test_by_hand(self):
        # The strongest ways from a to c and back are alike: 2, by way of b and d.
        poll = poll_with("abcd", {"ab": 1, "bc": 1, "cd": 1, "da": 1})
        self.assertEqual(lot(poll, "ways"), ["a", "b", "c", "d"])
        self.assertEqual(lot(poll_with("abcd", {"ab": 2, "bc": 2, "cd": 1, "da": 2}), "ways"), ["d"])
        self.assertEqual(lot(LINE, "ways"), ["a"])


class Weights(unittest.TestCase):
    def test_many_weights(self):
        chance = Random(45)
        for poll in POLLS:
            weights = tuple(sorted((chance.randint(-5, 5) for _ in poll.options), reverse=True))
            self.assertEqual(lot(poll, ("weights", weights)), weights_told(poll, weights))

    def test_several_hundred_figures(self):
        great = 10 ** 700
        poll = poll_of("bca", "abc 1", "bca 1", "cab 1")
        self.assertEqual(lot(poll, ("weights", (great + 2, great, -great))), ["b", "c", "a"])
        for more, told in (("abc", ["a"]), ("bac", ["b"]), ("cba", ["c"])):
            for weights in ((great + 1, great, great), (great, great - 1, -great), (3 * great, 2 * great + 1, 1)):
                with self.subTest(more=more):
                    grown = Poll(poll.options, poll.voices + poll_of("bca", f"{more} 1").voices)
                    self.assertEqual(lot(grown, ("weights", weights)), told)
                    self.assertEqual(end(grown, ("weights", weights)), told[0])
        tie = poll_of("abc", "abc 2", "bca 1")
        # a has 2 first and b a second more: the least difference decides.
        self.assertEqual(lot(tie, ("weights", (2 * great, great, 0))), ["a", "b"])
        self.assertEqual(lot(tie, ("weights", (2 * great + 1, great, 0))), ["a"])
        self.assertEqual(lot(tie, ("weights", (2 * great, great + 1, 0))), ["b"])

    def test_ties_share_the_mean(self):
        poll = Poll(("a", "b", "c"), ((("lets", ("a", "b")), 1), (("order", (("c",),)), 1)))
        # a and b have 3 / 2 and 1 / 2, c has 0 and 2.
        self.assertEqual(lot(poll, ("weights", (2, 1, 0))), ["a", "b", "c"])
        self.assertEqual(lot(poll, ("weights", (5, 2, 0))), ["c"])
        self.assertEqual(lot(poll, ("weights", (5, 4, 0))), ["a", "b"])


class BadRules(unittest.TestCase):
    def refused(self, poll, rule):
        for asked in (lambda: lot(poll, rule), lambda: end(poll, rule), lambda: end(poll, rule, ties=poll.options),
                      lambda: end(poll, rule, ties=None), lambda: end(poll, rule, ties=[])):
            with self.assertRaises(PollError) as caught:
                asked()
            self.assertIs(type(caught.exception), BadRule)

    def test_what_is_none(self):
        for rule in (*THINGS, *NO_RULES, EqualToAll(), ("weights", EqualToAll()), (EqualToAll(), (1,)),
                     (EqualToAll(), (3, 2, 1)), (EqualToAll(), (3, 2, 1, 0)), (None, (3, 2, 1)), (1, (3, 2, 1, 0)),
                     Poll(("a",)), Share(1), [EqualToAll()]):
            for poll in (RING, NONE, FOUR):
                with self.subTest(rule=rule):
                    self.refused(poll, rule)

    def test_each_word_with_a_sign_more_or_less(self):
        for word in WORDS:
            for rule in (word + "s", word[:-1], word + " ", word.upper(), word.title(), (word,), [word],
                         (word, (3, 2, 1)), {word: 1}, word.encode(), ("weights", word)):
                with self.subTest(rule=rule):
                    self.refused(RING, rule)

    def test_weights_that_are_none(self):
        for weights in ((3, 1, 2), (1, 2, 3), (2, 3, 1), (0, 0, 1), (3, 2, 1, 0), (3, 2), (3,), (), (True, 0, 0),
                        (1, True, 0), (1, 0, False), (3, 2, None), (3, 2, "1"), (3.0, 2, 1), [3, 2, 1], "321",
                        {3: 1, 2: 1, 1: 1}, range(3, 0, -1), (3, 2, Share(1)), ((3, 2, 1),), 3, None, EqualToAll(),
                        (EqualToAll(),) * 3, ([],) * 3):
            with self.subTest(weights=weights):
                self.refused(RING, ("weights", weights))
        for rule in (("weights", 3, 2, 1), ("weights", (3, 2, 1), ()), ("weights", (3, 2, 1), 1),
                     ["weights", (3, 2, 1)],
                     ((3, 2, 1), "weights"), ((3, 2, 1),), (3, 2, 1), ("Weights", (3, 2, 1)), ("weights ", (3, 2, 1))):
            with self.subTest(rule=rule):
                self.refused(RING, rule)

    def test_weights_are_by_how_many_options_there_are(self):
        for many in range(1, 6):
            poll = Poll(tuple("abcdef"[:many]), ((("lets", ("a",)), 2),))
            for length in range(7):
                rule = ("weights", (5, 4, 3, 2, 1, 0)[:length])
                if length == many:
                    self.assertEqual(lot(poll, rule), ["a"])
                else:
                    self.refused(poll, rule)

    def test_all_small_weights(self):
        poll = poll_of("abc", "abc 1")
        for weights in product(range(-1, 3), repeat=3):
            if weights[0] >= weights[1] >= weights[2]:
                self.assertEqual(lot(poll, ("weights", weights)), weights_told(poll, weights))
            else:
                self.refused(poll, ("weights", weights))


class End(unittest.TestCase):
    def test_by_all_orders_of_ties(self):
        for poll in ALL[:70]:
            for rule in rules_for(poll.options):
                self.assertEqual(end(poll, rule), lot_told(poll, rule)[0])
                self.assertEqual(end(poll, rule, ties=()), lot_told(poll, rule)[0])
                for ties in (poll.options, poll.options[::-1], poll.options[1:] + poll.options[:1]):
                    self.assertEqual(end(poll, rule, ties=ties), end_told(poll, rule, ties))
        for ties in permutations("abc"):
            self.assertEqual(end(NONE, "top", ties=ties), ties[0])
            self.assertEqual(end(MIXED, "rounds", ties=ties), [name for name in ties if name != "c"][0])

    def test_ties_that_are_none(self):
        for ties in (*THINGS, ["a", "b", "c"], [], "abc", ("a", "b"), ("a", "b", "b"), ("a", "b", "c", "a"),
                     ("a", "b", "d"), ("a", "b", "c", "d"), ("a", "b", None), ("a", "b", ["c"]),
                     ("a", "b", EqualToAll()), (("a", "b", "c"),), {"a": 1, "b": 2, "c": 3}, {"a", "b", "c"}, None, 0,
                     False, EqualToAll()):
            for poll in (RING, NONE):
                for rule in rules_for(poll.options):
                    with self.subTest(ties=ties, rule=rule):
                        with self.assertRaises(PollError) as caught:
                            end(poll, rule, ties=ties)
                        self.assertIs(type(caught.exception), BadOrder)

    def test_ties_are_asked_by_name_alone(self):
        with self.assertRaises(TypeError):
            end(RING, "top", ("a", "b", "c"))

    def test_weights_and_ties(self):
        rule = weights_for(NONE.options)
        self.assertEqual(end(NONE, rule), "b")
        self.assertEqual(end(NONE, rule, ties=("c", "a", "b")), "c")


if __name__ == "__main__":
    unittest.main()
