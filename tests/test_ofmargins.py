"""[12.1]: polls of told margins."""

import unittest
from itertools import combinations, permutations, product
from random import Random

from tests.samples import THINGS, EqualByHash, EqualToAll, LONG_NAMES, many_polls, margin_told
from voicefold import ofmargins
from voicefold.counts import margins
from voicefold.errors import BadMargins, BadPoll, PollError
from voicefold.ofmargins import poll_of
from voicefold.polls import Poll
from voicefold.shares import Share

ABC = ("a", "b", "c")


def both_ways(by):
    """Margins of which one way is told."""
    return {**by, **{(other, one): -number for (one, other), number in by.items()}}


def any_margins(chance, options, numbers):
    """Margins of these numbers, their keys in any order."""
    told = both_ways({pair: chance.choice(numbers) for pair in combinations(options, 2)})
    keys = list(told)
    chance.shuffle(keys)
    return {key: told[key] for key in keys}


class PollOf(unittest.TestCase):
    def told(self, options, asked):
        kept = list(asked.items())
        found = poll_of(options, asked)
        self.assertIs(type(found), Poll)
        self.assertEqual(found.options, options)
        for ballot, many in found.voices:
            self.assertEqual(ballot[0], "order")
            self.assertEqual(len(ballot), 2)
            self.assertTrue(all(type(tier) is tuple and len(tier) == 1 for tier in ballot[1]))
            self.assertEqual(sorted(name for tier in ballot[1] for name in tier), sorted(options))
            self.assertGreater(many, 0)
        self.assertEqual(margins(found), asked)
        self.assertEqual({pair: margin_told(found, *pair) for pair in permutations(options, 2)}, asked)
        self.assertEqual(list(asked.items()), kept)
        return found

    def test_by_hand(self):
        self.told(("a",), {})
        for number in (0, 1, -1, 2, -2, 3, -3, 999, -999, 1000, -1000):
            self.told(("b", "a"), both_ways({("b", "a"): number}))
            self.told(("b", "a"), both_ways({("a", "b"): number}))
        self.told(ABC, both_ways({("a", "b"): 2, ("b", "c"): 4, ("c", "a"): 6}))
        self.told(ABC, both_ways({("a", "b"): 1, ("b", "c"): 3, ("c", "a"): 5}))
        self.assertEqual(poll_of(options=("a",), margins={}), Poll(("a",)))

    def test_all_small_margins_of_three(self):
        for numbers in (range(-4, 5, 2), range(-5, 6, 2)):
            for ab, bc, ac in product(numbers, repeat=3):
                self.told(ABC, both_ways({("a", "b"): ab, ("b", "c"): bc, ("a", "c"): ac}))

    def test_one_to_six_options_even_and_odd(self):
        chance = Random(121)
        for many in range(1, 7):
            for names in ("abcdef", "fedcba", LONG_NAMES):
                options = tuple(names[:many])
                for numbers in (range(-10, 11, 2), range(-9, 10, 2), range(-1000, 1001, 2), range(-999, 1000, 2),
                                (1000, -1000), (999, -999), (0,), (1, -1), (0, 2), (1,), (-1,), (3,), (-3,), (2,),
                                (-2,)):
                    for _ in range(3):
                        self.told(options, any_margins(chance, options, numbers))

    def test_what_margins_tells(self):
        for poll in many_polls(122, 5, 120):
            held = margins(poll)
            if len({number % 2 for number in held.values()}) <= 1 and all(abs(held[pair]) <= 1000 for pair in held):
                self.told(poll.options, held)

    def test_what_is_done_to_the_dict_behind_changes_nothing(self):
        asked = both_ways({("a", "b"): 2, ("b", "c"): 4, ("c", "a"): 6})
        found = poll_of(ABC, asked)
        shown = repr(found)
        asked[("a", "b")] = 8
        with self.assertRaises(BadMargins):
            poll_of(ABC, asked)
        asked[("b", "a")] = -8
        self.assertEqual(repr(found), shown)
        self.assertEqual(margins(poll_of(ABC, asked)), asked)
        asked.clear()
        self.assertEqual(repr(found), shown)

    def test_told_again_alike_whatever_the_keys_order(self):
        chance = Random(123)
        for _ in range(20):
            asked = any_margins(chance, tuple("dbca"), range(-9, 10, 2))
            found = repr(poll_of(tuple("dbca"), asked))
            self.assertEqual(repr(poll_of(tuple("dbca"), asked)), found)
            keys = sorted(asked)
            self.assertEqual(repr(poll_of(tuple("dbca"), {key: asked[key] for key in keys})), found)

    def test_the_name_in_its_file(self):
        self.assertIs(ofmargins.poll_of, poll_of)


class Refused(unittest.TestCase):
    GOOD = both_ways({("a", "b"): 2, ("b", "c"): 4, ("c", "a"): -6})
    ODD = both_ways({("a", "b"): 1, ("b", "c"): 3, ("c", "a"): -5})

    def refused(self, kind, options, asked):
        with self.assertRaises(PollError) as caught:
            poll_of(options, asked)
        self.assertIs(type(caught.exception), kind)

    def test_options_that_are_none_ahead_of_margins(self):
        for options in (*THINGS, (), ("a", "a"), ["a", "b", "c"], "abc", None, ("a", "B"), ("a", 1), ("a", "b", None),
                        tuple("abcdefg"), {"a": 1}, {"a"}, ("toolongname",), ("a", ["b"]), EqualToAll()):
            for asked in (self.GOOD, {}, None, [], {("a", "b"): 1}):
                with self.subTest(options=options):
                    self.refused(BadPoll, options, asked)

    def test_no_dict(self):
        for asked in (*[thing for thing in THINGS if thing != {}], None, [], (), list(self.GOOD.items()),
                      tuple(self.GOOD.items()), list(self.GOOD), 3, "abc", {}, set(self.GOOD), EqualToAll()):
            with self.subTest(asked=asked):
                self.refused(BadMargins, ABC, asked)
        for asked in (*[thing for thing in THINGS if not isinstance(thing, dict)], None, [], (), 0, "", EqualToAll()):
            self.refused(BadMargins, ("a",), asked)

    def test_keys(self):
        for good in (self.GOOD, self.ODD):
            for key in good:
                less = {pair: good[pair] for pair in good if pair != key}
                self.refused(BadMargins, ABC, less)
                self.refused(BadMargins, ABC, {pair: less[pair] for pair in less if pair != key[::-1]})
                for other in (("a", "d"), ("d", "a"), ("a", "a"), ("a",), ("a", "b", "c"), "ab", "a", 1, None, (),
                              ("A", "b"),
                              (key, key), key + key, ("a", None), ("a", 1), (1, 2), frozenset(key), True, object(),
                              ("a", ("b",))):
                    self.refused(BadMargins, ABC, {**less, other: good[key]})
                    self.refused(BadMargins, ABC, {**less, other: 0})
                    self.refused(BadMargins, ABC, {**good, other: good[key]})
        self.refused(BadMargins, ("a",), {("a", "a"): 0})
        self.refused(BadMargins, ("a",), {("a", "b"): 0, ("b", "a"): 0})
        self.refused(BadMargins, ("a", "b"), {})
        self.refused(BadMargins, ("a", "b"), self.GOOD)
        self.refused(BadMargins, ("a", "b", "d"), self.GOOD)
        self.refused(BadMargins, ("a", "b", "c", "d"), self.GOOD)

    def test_keys_that_tell_that_they_are_equal_to_anything(self):
        for key in (EqualByHash(("a", "b")), (EqualByHash("a"), "b"), ("a", EqualByHash("b"))):
            asked = {pair: self.GOOD[pair] for pair in self.GOOD if pair != ("a", "b")}
            asked[key] = 2
            self.assertEqual(len(asked), 6)
            self.refused(BadMargins, ABC, asked)

    def test_numbers(self):
        for good in (self.GOOD, self.ODD):
            for key in good:
                for number in (good[key] + 2, good[key] - 2, good[key] + 1, -good[key], 1001, -1001, 1002, -1002,
                               10 ** 40,
                               True, False, None, "2", "", 2.0, float(good[key]), [2], (2,), {}, Share(2), EqualToAll(),
                               b"2", str(good[key])):
                    with self.subTest(key=key, number=number):
                        self.refused(BadMargins, ABC, {**good, key: number})

    def test_both_ways_at_once(self):
        for pair in combinations(ABC, 2):
            back = pair[::-1]
            for number in (1, -1, 3, 999, -999, 1002, -1002, 2000):
                self.refused(BadMargins, ABC, {**self.GOOD, pair: number, back: -number})
            for number in (0, 2, -4, 1000, 1001, -1001, 10 ** 40 + 1):
                self.refused(BadMargins, ABC, {**self.ODD, pair: number, back: -number})
            for number, other in ((2, 2), (-2, -2), (True, -1), (1, True), (False, False), (0, False), (False, 0),
                                  (0.0, 0.0), (2.0, -2.0), (1001, 1001), ("2", "-2"), (None, None)):
                self.refused(BadMargins, ABC, {**self.GOOD, pair: number, back: other})
                self.refused(BadMargins, ABC, {**self.ODD, pair: number, back: other})

    def test_two_options(self):
        for number in range(-1000, 1001, 7):
            self.assertEqual(margins(poll_of(("a", "b"), both_ways({("a", "b"): number})))["a", "b"], number)
        for number, other in ((1001, -1001), (-1001, 1001), (1002, -1002), (1, 1), (1, -3), (1, 0), (2, -1), (True, -1),
                              (-1, True), (False, False), (1, -1.0)):
            self.refused(BadMargins, ("a", "b"), {("a", "b"): number, ("b", "a"): other})


if __name__ == "__main__":
    unittest.main()
