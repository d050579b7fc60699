"""[3.3], and what [2] says of polls."""

import unittest
from itertools import permutations
from random import Random

from tests.samples import LONG_NAMES, THINGS, EqualToAll, any_poll, poll_of, row_of
from voicefold.ballots import tiers
from voicefold.errors import BadPoll, NoOption, PollError
from voicefold.polls import Poll

AB = ("a", "b")
ROW = (("lets", ("a",)), 3)
MOST_ROWS = 30
MOST_VOICES = 1000000

NO_NAMES = (*THINGS, (), [], ["a"], "a", "ab", ("a", "a"), ("a", "b", "a"), ("abcdefghi",), ("a", "abcdefghi"), ("A",),
            ("a", "bC"), ("",), ("a", ""), (1,), (None,), (True,), ("a", None), ("a", ["b"]), (("a",),), ("a1",),
            ("a b",),
            ("\u00e4",), (b"a",), {"a"}, {"a": 1}, (EqualToAll(), "a"))

BAD_MANY = (0, -1, MOST_VOICES + 1, 10 ** 30, True, False, "3", None, 1.0, [], (3,), EqualToAll())


def refused(test, kind, asked):
    """What refuses is of just this class."""
    with test.assertRaises((PollError, NoOption)) as caught:
        asked()
    test.assertIs(type(caught.exception), kind)
    return caught.exception


class Made(unittest.TestCase):
    def test_by_place_by_name_and_voices_left_out(self):
        for poll in (Poll(AB, (ROW,)), Poll(options=AB, voices=(ROW,)), Poll(voices=(ROW,), options=AB),
                     Poll(AB, voices=(ROW,))):
            self.assertEqual((poll.options, poll.voices), (AB, (ROW,)))
        for poll in (Poll(AB), Poll(options=AB), Poll(AB, ())):
            self.assertEqual((poll.options, poll.voices), (AB, ()))

    def test_fields_are_as_handed_in(self):
        options = tuple(["b", "a"])
        voices = ((("order", (("b", "a"),)), 3), (("marks", (("b", 0), ("a", 7))), 1))
        poll = Poll(options, voices)
        self.assertIs(poll.options, options)
        self.assertIs(poll.voices, voices)
        self.assertEqual(vars(poll), {"options": options, "voices": voices})

    def test_of_one_option_to_six(self):
        for many in range(1, 7):
            options = tuple("fedcba")[:many]
            self.assertEqual(Poll(options).options, options)
        self.assertEqual(Poll(("abcdefgh", "z")).options, ("abcdefgh", "z"))

    def test_options_that_are_none_are_refused(self):
        for options in (*NO_NAMES, tuple("abcdefg"), tuple("abcdefghijkl")):
            with self.subTest(options=options):
                refused(self, BadPoll, lambda: Poll(options))
                refused(self, BadPoll, lambda: Poll(options, ()))
                refused(self, BadPoll, lambda: Poll(options, None))

    def test_none_to_thirty_rows(self):
        for many in range(MOST_ROWS + 1):
            self.assertEqual(len(Poll(AB, (ROW,) * many).voices), many)
        refused(self, BadPoll, lambda: Poll(AB, (ROW,) * (MOST_ROWS + 1)))

    def test_voices_that_are_none_are_refused(self):
        for voices in (*THINGS, [], [ROW], ROW, "ab", {}, {ROW}, iter(()), (ROW, None), (None, ROW), (ROW, ())):
            with self.subTest(voices=voices):
                refused(self, BadPoll, lambda: Poll(AB, voices))

    def test_rows_that_are_none_are_refused(self):
        for row in (*THINGS, list(ROW), ROW + (1,), ROW[:1], (3, ROW[0]), ("lets", ("a",)), ("lets", ("a",), 3), ROW[0],
                    (ROW, 3), {ROW[0]: 3}):
            with self.subTest(row=row):
                refused(self, BadPoll, lambda: Poll(AB, (row,)))
                refused(self, BadPoll, lambda: Poll(AB, (ROW, row)))
                refused(self, BadPoll, lambda: Poll(AB, (row, ROW)))

    def test_ballots_that_are_none_are_refused(self):
        for ballot in (*THINGS, ["lets", ("a",)], ("lets", ["a"]), ("lets", ("c",)), ("lets", ("a", "a")), ("let", ()),
                       ("order", ((),)), ("order", ("a",)), ("marks", (("a", 10),)), ("marks", (("a", True),)), ()):
            with self.subTest(ballot=ballot):
                refused(self, BadPoll, lambda: Poll(AB, ((ballot, 3),)))
                refused(self, BadPoll, lambda: Poll(AB, (ROW, (ballot, 3))))

    def test_how_many_voices_a_row_has(self):
        for many in (1, 2, MOST_VOICES - 1, MOST_VOICES):
            self.assertEqual(Poll(AB, ((ROW[0], many),)).voices[0][1], many)
        for many in BAD_MANY:
            with self.subTest(many=many):
                refused(self, BadPoll, lambda: Poll(AB, ((ROW[0], many),)))
                refused(self, BadPoll, lambda: Poll(AB, (ROW, (ROW[0], many))))


class Many(unittest.TestCase):
    def test_of_rows_and_of_none(self):
        self.assertEqual(Poll(AB).many(), 0)
        self.assertEqual(Poll(AB, (ROW,)).many(), 3)
        self.assertEqual(Poll(AB, (ROW, ROW, (("order", ()), 4))).many(), 10)
        self.assertEqual(Poll(AB, ((ROW[0], MOST_VOICES),) * MOST_ROWS).many(), MOST_ROWS * MOST_VOICES)

    def test_it_is_a_whole_number(self):
        for poll in (Poll(AB), Poll(AB, (ROW,))):
            self.assertIs(type(poll.many()), int)


class Joined(unittest.TestCase):
    def test_the_other_ones_voices_stand_behind(self):
        one = Poll(AB, (ROW, (("order", (("b",),)), 2)))
        other = Poll(AB, ((("marks", (("b", 2),)), 1), ROW))
        told = one.joined(other)
        self.assertIs(type(told), Poll)
        self.assertEqual((told.options, told.voices), (AB, one.voices + other.voices))
        self.assertEqual(other.joined(other=one).voices, other.voices + one.voices)
        self.assertEqual((len(one.voices), len(other.voices)), (2, 2))

    def test_of_polls_without_voices(self):
        one = Poll(AB, (ROW,))
        self.assertEqual(one.joined(Poll(AB)).voices, (ROW,))
        self.assertEqual(Poll(AB).joined(one).voices, (ROW,))
        self.assertEqual(Poll(AB).joined(Poll(AB)).voices, ())

    def test_with_itself(self):
        one = Poll(AB, (ROW,))
        self.assertEqual(one.joined(one).voices, (ROW, ROW))

    def test_up_to_thirty_rows(self):
        for mine, its in ((0, 30), (30, 0), (15, 15), (1, 29), (29, 1)):
            self.assertEqual(len(Poll(AB, (ROW,) * mine).joined(Poll(AB, (ROW,) * its)).voices), MOST_ROWS)
        for mine, its in ((1, 30), (30, 1), (16, 15), (30, 30)):
            refused(self, BadPoll, lambda: Poll(AB, (ROW,) * mine).joined(Poll(AB, (ROW,) * its)))

    def test_other_options_are_refused(self):
        for options in (("b", "a"), ("a",), ("a", "b", "c"), ("a", "c"), ("c", "d")):
            for rows in (0, 16):
                with self.subTest(options=options):
                    other = Poll(options, ((("lets", ()), 1),) * rows)
                    refused(self, BadPoll, lambda: Poll(AB, (ROW,) * 15).joined(other))
                    refused(self, BadPoll, lambda: other.joined(Poll(AB)))


class Only(unittest.TestCase):
    POLL = Poll(("a", "b", "c"), (
        (("order", (("c", "a"), ("b",))), 1),
        (("order", (("b",), ("c",), ("a",))), 2),
        (("order", (("b",),)), 3),
        (("order", ()), 4),
        (("lets", ("c", "b")), 5),
        (("lets", ("b",)), 6),
        (("marks", (("c", 0), ("b", 9), ("a", 3))), 7),
        (("marks", (("b", 1),)), 8),
    ))

    def test_two_of_three(self):
        told = self.POLL.only(("c", "a"))
        self.assertIs(type(told), Poll)
        self.assertEqual(told.options, ("a", "c"))
        self.assertEqual(told.voices, (
            (("order", (("c", "a"),)), 1),
            (("order", (("c",), ("a",))), 2),
            (("order", ()), 3),
            (("order", ()), 4),
            (("lets", ("c",)), 5),
            (("lets", ()), 6),
            (("marks", (("c", 0), ("a", 3))), 7),
            (("marks", ()), 8),
        ))

    def test_one_of_three(self):
        told = self.POLL.only(("b",))
        self.assertEqual(told.options, ("b",))
        self.assertEqual(told.voices, (
            (("order", (("b",),)), 1),
            (("order", (("b",),)), 2),
            (("order", (("b",),)), 3),
            (("order", ()), 4),
            (("lets", ("b",)), 5),
            (("lets", ("b",)), 6),
            (("marks", (("b", 9),)), 7),
            (("marks", (("b", 1),)), 8),
        ))

    def test_names_of_several_letters(self):
        poll = Poll(("ab", "b", "ba"), ((("order", (("ba", "b"), ("ab",))), 1), (("lets", ("ab", "ba")), 2),
                                        (("marks", (("ab", 1), ("b", 2))), 3)))
        told = poll.only(("ba", "ab"))
        self.assertEqual((told.options, told.voices), (("ab", "ba"), (
            (("order", (("ba",), ("ab",))), 1), (("lets", ("ab", "ba")), 2), (("marks", (("ab", 1),)), 3))))

    def test_all_of_them_in_any_order(self):
        for names in permutations("abc"):
            told = self.POLL.only(names)
            self.assertEqual((told.options, told.voices), (self.POLL.options, self.POLL.voices))
        self.assertEqual(self.POLL.only(names=("c", "a")).options, ("a", "c"))

    def test_the_poll_stays_as_it_was(self):
        shown = repr(self.POLL)
        self.POLL.only(("a",))
        self.POLL.joined(self.POLL)
        self.assertEqual(repr(self.POLL), shown)

    def test_many_polls_have_the_same_ahead(self):
        chance = Random(34)
        for _ in range(200):
            poll = any_poll(chance, 6, names=chance.choice(("abcdef", LONG_NAMES)))
            names = tuple(chance.sample(poll.options, chance.randint(1, len(poll.options))))
            told = poll.only(names)
            self.assertEqual(told.options, tuple(name for name in poll.options if name in names))
            self.assertEqual(len(told.voices), len(poll.voices))
            for (ballot, many), (its, as_many) in zip(poll.voices, told.voices):
                cut = [tuple(name for name in tier if name in names) for tier in tiers(poll.options, ballot)]
                self.assertEqual(tiers(told.options, its), tuple(tier for tier in cut if tier))
                self.assertEqual((its[0], as_many), (ballot[0], many))

    def test_what_are_no_names_is_refused(self):
        for names in (*NO_NAMES, ("d", "d"), ("d", "a", "a"), ("d", 1), ("d", "X"), ("", "d"), ["a", "b"], ["d"]):
            with self.subTest(names=names):
                refused(self, BadPoll, lambda: self.POLL.only(names))

    def test_a_name_that_is_none_of_the_options_is_refused(self):
        for names, told in ((("d",), "d"), (("a", "d"), "d"), (("d", "a", "e"), "d"), (("a", "e", "d"), "e"),
                            (("ab",), "ab"), (tuple("abcdefg"), "d"), (tuple("zabcdefghij"), "z"),
                            (("zz", "a"), "zz")):
            with self.subTest(names=names):
                self.assertEqual(refused(self, NoOption, lambda: self.POLL.only(names)).name, told)


class Equal(unittest.TestCase):
    def alike(self, one, other, told):
        self.assertIs(one == other, told)
        self.assertIs(other == one, told)
        self.assertIs(one != other, not told)

    def test_told_in_other_forms(self):
        options = ("a", "b", "c")
        forms = (("order", (("b",),)), ("order", (("b",), ("c", "a"))), ("order", (("b",), ("a", "c"))),
                 ("lets", ("b",)),
                 ("marks", (("b", 1),)), ("marks", (("a", 0), ("b", 9))), ("marks", (("a", 4), ("b", 9), ("c", 4))))
        for one in forms:
            for other in forms:
                self.alike(Poll(options, ((one, 5),)), Poll(options, ((other, 5),)), True)
                self.alike(Poll(options, ((one, 5),)), Poll(options, ((other, 4),)), False)
                self.alike(Poll(options, ((one, 2), (other, 3))), Poll(options, ((other, 5),)), True)

    def test_rows_in_other_orders_and_parted(self):
        self.alike(poll_of("abc", "abc 2", "bca 3"), poll_of("abc", "bca 3", "abc 2"), True)
        self.alike(poll_of("abc", "abc 2", "bca 3"), poll_of("abc", "bca 1", "abc 2", "bca 2"), True)
        self.alike(poll_of("abc", "abc 2", "bca 3"), poll_of("abc", "bca 2", "abc 3"), False)
        self.alike(poll_of("abc", "abc 2", "bca 3"), poll_of("abc", "abc 2"), False)
        self.alike(poll_of("abc", "abc 2"), poll_of("abc", "acb 2"), False)
        self.alike(poll_of("abc", "abc 2"), poll_of("abc", "abc 2", "abc 2"), False)

    def test_voices_of_a_single_tier_count(self):
        self.alike(Poll(AB, ((("lets", ()), 2),)), Poll(AB, ((("order", (("b", "a"),)), 2),)), True)
        self.alike(Poll(AB, ((("lets", ()), 2),)), Poll(AB, ((("order", ()), 3),)), False)
        self.alike(Poll(AB, ((("lets", ()), 2),)), Poll(AB), False)

    def test_options_in_order(self):
        self.alike(Poll(AB), Poll(AB), True)
        self.alike(Poll(AB), Poll(("b", "a")), False)
        self.alike(Poll(AB), Poll(("a", "b", "c")), False)
        self.alike(Poll(AB, (ROW,)), Poll(("b", "a"), (ROW,)), False)

    def test_a_single_option(self):
        self.alike(Poll(("a",), ((("lets", ()), 2),)), Poll(("a",), ((("lets", ("a",)), 2),)), True)

    def test_nothing_else_is_equal(self):
        class Alike:
            options = AB
            voices = (ROW,)

        poll = Poll(AB, (ROW,))
        for thing in (None, True, 0, "Poll", repr(poll), AB, (AB, (ROW,)), [AB, (ROW,)], vars(poll), Alike(), Poll,
                      object()):
            with self.subTest(thing=thing):
                self.alike(poll, thing, False)

    def test_equal_told_for_many_polls(self):
        chance = Random(35)
        for _ in range(200):
            poll = any_poll(chance, 4)
            rows = [(("order", tiers(poll.options, ballot)), many) for ballot, many in poll.voices]
            chance.shuffle(rows)
            self.alike(poll, Poll(poll.options, tuple(rows)), True)
            self.alike(poll, Poll(poll.options, tuple(rows) + ((("lets", ()), 1),)), False)


class Shown(unittest.TestCase):
    def test_by_repr(self):
        for poll, text in (
                (Poll(AB, (ROW,)), "Poll(('a', 'b'), ((('lets', ('a',)), 3),))"),
                (Poll(("a",)), "Poll(('a',), ())"),
                (Poll(options=AB, voices=(row_of("ba", 12), ROW)),
                 "Poll(('a', 'b'), ((('order', (('b',), ('a',))), 12), (('lets', ('a',)), 3)))"),
                (Poll(("x", "yy"), ((("marks", (("yy", 0),)), 1),)),
                 "Poll(('x', 'yy'), ((('marks', (('yy', 0),)), 1),))")):
            with self.subTest(text=text):
                self.assertEqual(repr(poll), text)
                self.assertEqual(repr([poll]), f"[{text}]")

    def test_repr_makes_the_poll_again(self):
        chance = Random(36)
        for _ in range(100):
            poll = any_poll(chance, 6)
            again = eval(repr(poll), {"Poll": Poll})
            self.assertEqual((again.options, again.voices), (poll.options, poll.voices))


class Interface(unittest.TestCase):
    def test_each_method_stands_in_the_class_itself(self):
        for name in ("__init__", "__eq__", "__repr__", "many", "joined", "only"):
            self.assertIn(name, vars(Poll))
        self.assertEqual(Poll.__module__, "voicefold.polls")


if __name__ == "__main__":
    unittest.main()
