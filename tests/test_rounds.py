"""[8.1], [8.2]: tallies and rounds."""

import unittest
from itertools import permutations

from tests.samples import THINGS, EqualToAll, LONG_NAMES, many_polls, poll_of
from tests.told import least_told, rounds_told, tally_told
from voicefold.errors import BadOrder, NoOption, PollError
from voicefold.polls import Poll
from voicefold.rounds import round_ends, rounds, tally
from voicefold.rules import lot

POLLS = many_polls(81, 6, 150)
SMALL = many_polls(82, 4, 60)
# Ballots of all forms, names beside one another, options left out.
MIXED = Poll(("d", "a", "c", "b"), (
    (("order", (("a", "b"), ("c",))), 1),
    (("order", (("c",), ("d",))), 2),
    (("order", ()), 4),
    (("lets", ("a",)), 8),
    (("lets", ("a", "d")), 16),
    (("lets", ("d", "a", "c", "b")), 32),
    (("marks", (("b", 9), ("a", 8), ("c", 8))), 64),
    (("marks", (("d", 1), ("c", 0))), 128),
))
NO_VOICES = tuple(Poll(tuple("fadbce"[:many])) for many in range(1, 7))
ONE = Poll(("a",), ((("lets", ()), 3),))
TIES = poll_of("abcd", "abcd 2", "bacd 2", "cabd 1", "dbac 1")
ALL = (MIXED, ONE, TIES, *NO_VOICES, *POLLS)

NO_LISTS = ((), ("a",), ("a", "b"), "a", "ab", None, {}, {"a": 1}, {"a"}, 3, True, b"ab", EqualToAll(), object(),
            range(2))
NO_NAMES = ([], ["a", "a"], ["a", "b", "a"], [None], ["a", None], ["A"], ["a", "B"], ["a", ""], [""], ["a b"], ["a1"],
            ["toolongname"], ["a", "ninechars"], ["a", 1], [1], [True], [["a"]], [("a",)], ["a", ["b"]], [EqualToAll()],
            ["a", EqualToAll()], [{}], ["a", b"b"], ["zz", "zz"], ["zz", "a", "a"], ["zz", 1], ["a", "zz", "ZZ"],
            ["zz", "yy", "zz"])


def rounds_by_steps(poll, ties=()):
    """The words of [8.2], step by step."""
    ties = ties or poll.options
    left, rows = list(poll.options), []
    while len(left) > 1:
        held = tally_told(poll, left)
        gone = [name for name in ties if name in least_told(held)][-1]
        rows.append((gone, tuple(held[name] for name in poll.options if name in left)))
        left.remove(gone)
    return rows, left[0]


def lists_of(options):
    """All lists of unlike options, one at least, in any order."""
    return [list(names) for many in range(1, len(options) + 1) for names in permutations(options, many)]


class Tally(unittest.TestCase):
    def test_by_hand(self):
        for left, told in ((["a", "b", "c", "d"], {"d": 128, "a": 8, "c": 2, "b": 64}),
                           (["c", "b"], {"c": 2, "b": 1 + 64}), (["b", "c"], {"c": 2, "b": 1 + 64}),
                           (["a", "d"], {"d": 2 + 128, "a": 1 + 8 + 64}), (["c"], {"c": 255}), (["d"], {"d": 255}),
                           (["a", "c", "d"], {"d": 128, "a": 1 + 8, "c": 2})):
            with self.subTest(left=left):
                self.assertEqual(list(tally(MIXED, left).items()), list(told.items()))
                self.assertEqual(tally(poll=MIXED, left=left), told)

    def test_all_lists_of_small_polls(self):
        for poll in (MIXED, ONE, TIES, *SMALL):
            for left in lists_of(poll.options):
                asked = list(left)
                told = tally(poll, asked)
                self.assertEqual(list(told.items()), list(tally_told(poll, left).items()))
                self.assertIs(type(told), dict)
                self.assertEqual(asked, left)

    def test_of_six_options(self):
        for poll in POLLS:
            for left in (list(poll.options), list(poll.options)[::-1], list(poll.options)[::2], list(poll.options)[1:]):
                if left:
                    self.assertEqual(list(tally(poll, left).items()), list(tally_told(poll, left).items()))

    def test_of_one_left_all_voices_count_for_it(self):
        for poll in ALL:
            for name in poll.options:
                self.assertEqual(tally(poll, [name]), {name: poll.many()})

    def test_what_is_no_list_of_unlike_names(self):
        for left in (*NO_LISTS, *NO_NAMES, *[thing for thing in THINGS if thing != ["zz"]]):
            for poll in (MIXED, ONE, NO_VOICES[3]):
                with self.subTest(left=left):
                    with self.assertRaises(PollError) as caught:
                        tally(poll, left)
                    self.assertIs(type(caught.exception), BadOrder)

    def test_the_first_that_is_none_of_the_options(self):
        for left, name in ((["zz"], "zz"), (["a", "zz"], "zz"), (["zz", "a"], "zz"), (["a", "zz", "yy"], "zz"),
                           (["a", "yy", "b", "zz"], "yy"), (["aa", "a"], "aa"), (["e"], "e"),
                           (["a", "b", "c", "d", "e"], "e"), (["h", "g", "f", "e", "d", "c", "b", "a"], "h")):
            with self.subTest(left=left):
                with self.assertRaises(NoOption) as caught:
                    tally(MIXED, left)
                self.assertEqual(caught.exception.name, name)

    def test_a_list_that_was_changed(self):
        left = ["a", "d"]
        self.assertEqual(list(tally(MIXED, left)), ["d", "a"])
        left.append("b")
        self.assertEqual(list(tally(MIXED, left)), ["d", "a", "b"])
        left[0] = "zz"
        with self.assertRaises(NoOption):
            tally(MIXED, left)
        left.clear()
        with self.assertRaises(BadOrder):
            tally(MIXED, left)

    def test_the_told_dict_is_the_askers_own(self):
        for poll in ALL[:50]:
            first = tally(poll, list(poll.options))
            kept = dict(first)
            first.clear()
            first["zz"] = 1
            self.assertEqual(list(tally(poll, list(poll.options)).items()), list(kept.items()))


class Rounds(unittest.TestCase):
    def test_by_hand(self):
        # a 2, b 2, c 1, d 1: d goes, behind it c, since it is last of both; then a 3, b 3.
        self.assertEqual(rounds(TIES), ([("d", (2, 2, 1, 1)), ("c", (2, 3, 1)), ("b", (3, 3))], "a"))
        self.assertEqual(rounds(poll=TIES, ties=("b", "a", "d", "c")),
                         ([("c", (2, 2, 1, 1)), ("d", (3, 2, 1)), ("a", (3, 3))], "b"))
        self.assertEqual(rounds(MIXED), ([("c", (128, 8, 2, 64)), ("a", (128 + 2, 8, 64)), ("b", (146, 65))], "d"))
        self.assertEqual(rounds(ONE), ([], "a"))
        self.assertEqual(rounds(ONE, ties=("a",)), ([], "a"))
        self.assertEqual(rounds(Poll(("b", "a", "c"))), ([("c", (0, 0, 0)), ("a", (0, 0))], "b"))
        self.assertEqual(rounds(Poll(("b", "a", "c")), ties=("a", "c", "b")), ([("b", (0, 0, 0)), ("c", (0, 0))], "a"))

    def test_step_by_step(self):
        for poll in ALL:
            for ties in ((), poll.options, poll.options[::-1], poll.options[1:] + poll.options[:1]):
                told = rounds(poll, ties=ties)
                self.assertEqual(told, rounds_by_steps(poll, ties))
                self.assertIs(type(told), tuple)
                self.assertIs(type(told[0]), list)
                self.assertTrue(all(type(row) is tuple and type(row[1]) is tuple for row in told[0]))
            self.assertEqual(rounds(poll), rounds_by_steps(poll))

    def test_all_orders_of_ties(self):
        for poll in SMALL[:24]:
            for ties in permutations(poll.options):
                self.assertEqual(rounds(poll, ties=ties), rounds_by_steps(poll, ties))

    def test_ties_that_are_none(self):
        for ties in (*THINGS, list("dacb"), [], "dacb", tuple("dac"), tuple("daca"), tuple("dacbd"), tuple("dace"),
                     ("d", "a", "c", None), ("d", "a", "c", ["b"]), ("d", "a", "c", EqualToAll()), (tuple("dacb"),),
                     {"d": 1, "a": 1, "c": 1, "b": 1}, None, False, 0, EqualToAll()):
            for poll in (MIXED, NO_VOICES[3]):
                with self.subTest(ties=ties):
                    with self.assertRaises(PollError) as caught:
                        rounds(poll, ties=ties)
                    self.assertIs(type(caught.exception), BadOrder)
        with self.assertRaises(TypeError):
            rounds(MIXED, ("d", "a", "c", "b"))

    def test_what_is_told_is_the_askers_own(self):
        for poll in ALL[:50]:
            kept = rounds_by_steps(poll)
            rows, _ = rounds(poll)
            rows.reverse()
            rows.clear()
            self.assertEqual(rounds(poll), kept)


class RoundEnds(unittest.TestCase):
    def test_by_hand(self):
        self.assertEqual(round_ends(TIES), ["a", "b"])
        self.assertEqual(round_ends(MIXED), ["d"])
        self.assertEqual(round_ends(poll=ONE), ["a"])
        for poll in NO_VOICES:
            self.assertEqual(round_ends(poll), list(poll.options))

    def test_all_goings(self):
        for poll in (*ALL, *SMALL, Poll(LONG_NAMES)):
            told = round_ends(poll)
            self.assertEqual(told, rounds_told(poll))
            self.assertIs(type(told), list)
            self.assertEqual(lot(poll, "rounds"), told)

    def test_the_ends_are_just_those_of_some_ties_in_small_polls(self):
        for poll in SMALL:
            ends = {rounds(poll, ties=ties)[1] for ties in permutations(poll.options)}
            self.assertLessEqual(ends, set(round_ends(poll)))

    def test_the_told_list_is_the_askers_own(self):
        for poll in ALL[:50]:
            first = round_ends(poll)
            kept = list(first)
            first.reverse()
            first.clear()
            self.assertEqual(round_ends(poll), kept)

    def test_the_poll_stays(self):
        for poll in ALL[:50]:
            shown = repr(poll)
            rounds(poll)
            round_ends(poll)
            tally(poll, list(poll.options))
            self.assertEqual(repr(poll), shown)


if __name__ == "__main__":
    unittest.main()
