"""[3.1], [3.2]: ballots, their tiers, and what they have ahead of what."""

import unittest
from itertools import product
from random import Random

from tests.samples import LONG_NAMES, THINGS, EqualToAll, ahead_told, any_ballot
from voicefold.ballots import ahead, check_ballot, tiers
from voicefold.errors import BadBallot, NoOption, PollError

ABC = ("a", "b", "c")

GOOD = (
    ("order", ()), ("order", (("a",),)), ("order", (("a",), ("b",), ("c",))), ("order", (("c", "a", "b"),)),
    ("order", (("c",), ("a", "b"))), ("order", (("b", "a"),)),
    ("lets", ()), ("lets", ("b",)), ("lets", ("c", "a")), ("lets", ("c", "b", "a")),
    ("marks", ()), ("marks", (("a", 0),)), ("marks", (("a", 9), ("c", 9), ("b", 0))), ("marks", (("c", 5),)),
)

# By a, b and c, with what is otherwise than in a ballot.
BAD = (
    ("", ()), ("orders", ()), ("Order", ()), ("let", ()), ("mark", ()), (None, ()), (True, ()), (0, ()), (b"order", ()),
    ((), ()), ([], ()), ({}, ()), (EqualToAll(), ()), (EqualToAll(), (("a",),)), ("points", ("a",)),
    (), ("order",), ("lets",), ("marks",), ("order", (), ()), ("lets", (), ()), ("marks", (("a", 1),), ()),
    ["order", ()], ["lets", ("a",)], ["marks", ()], "order", "lets", {"order": ()}, ((), "order"), (("a",), "lets"),
    ("order", None), ("order", "abc"), ("order", []), ("order", [("a",)]), ("order", {}), ("order", 1),
    ("order", ("a",)), ("order", ("a", "b")), ("order", (["a"],)), ("order", ({"a"},)), ("order", (("a",), ["b"])),
    ("order", (("a",), None)), ("order", ((),)), ("order", (("a",), ())), ("order", ((), ("a",))), ("order", (("d",),)),
    ("order", (("a", "a"),)), ("order", (("a",), ("a",))), ("order", (("a",), ("b", "c", "a"))), ("order", ((1,),)),
    ("order", (("a", None),)), ("order", ((True,),)), ("order", ((["a"],),)), ("order", ((("a",),),)),
    ("order", ((EqualToAll(),),)), ("order", (("ab",),)), ("order", (("",),)), ("order", ((b"a",),)),
    ("order", (("a",), ("b",), ("c",), ("d",))), ("order", (("A",),)),
    ("lets", None), ("lets", "a"), ("lets", ["a"]), ("lets", []), ("lets", {"a"}), ("lets", ("a", "a")), ("lets", 3),
    ("lets", ("a", "b", "a")), ("lets", ("d",)), ("lets", ("a", "d")), ("lets", ("",)), ("lets", (None,)),
    ("lets", (1,)), ("lets", (["a"],)), ("lets", (("a",),)), ("lets", (EqualToAll(),)), ("lets", ({},)),
    ("lets", ("abc",)), ("lets", (b"a",)), ("lets", (("a", 1),)),
    ("marks", None), ("marks", "a1"), ("marks", [("a", 1)]), ("marks", {"a": 1}), ("marks", 9), ("marks", ("a",)),
    ("marks", ("a", 1)), ("marks", (["a", 1],)), ("marks", (("a",),)), ("marks", (("a", 1, 1),)), ("marks", ((),)),
    ("marks", (("a", 10),)), ("marks", (("a", -1),)), ("marks", (("a", True),)), ("marks", (("a", False),)),
    ("marks", (("a", "1"),)), ("marks", (("a", None),)), ("marks", (("a", 1.0),)), ("marks", (("a", [1]),)),
    ("marks", (("a", EqualToAll()),)), ("marks", (("a", 10 ** 30),)), ("marks", (("a", 1), ("a", 1))),
    ("marks", (("a", 1), ("b", 2), ("a", 2))), ("marks", (("d", 1),)), ("marks", (("a", 1), ("d", 1))),
    ("marks", ((1, "a"),)), ("marks", ((1, 1),)), ("marks", ((None, 1),)), ("marks", ((["a"], 1),)),
    ("marks", ((EqualToAll(), 1),)), ("marks", (("a", 1), None)), ("marks", (("a", 1), "b2")), ("marks", ("a1",)),
)


class Checked(unittest.TestCase):
    def refused(self, options, ballot):
        with self.assertRaises(PollError) as caught:
            check_ballot(options, ballot)
        self.assertIs(type(caught.exception), BadBallot)

    def test_good_ballots(self):
        for ballot in GOOD:
            with self.subTest(ballot=ballot):
                self.assertIsNone(check_ballot(ABC, ballot))
        self.assertIsNone(check_ballot(options=ABC, ballot=("lets", ("a",))))

    def test_all_marks(self):
        for mark in range(-3, 14):
            with self.subTest(mark=mark):
                if 0 <= mark <= 9:
                    self.assertIsNone(check_ballot(ABC, ("marks", (("b", mark),))))
                else:
                    self.refused(ABC, ("marks", (("b", mark),)))

    def test_of_one_option_to_six(self):
        chance = Random(31)
        for many in range(1, 7):
            options = tuple(chance.sample(["a", "bb", "ccc", "dddd", "eeeeeeee", "z"], many))
            whole = (("order", tuple((name,) for name in options)), ("order", (options,)), ("lets", options),
                     ("marks", tuple((name, 9) for name in options)))
            for ballot in whole:
                self.assertIsNone(check_ballot(options, ballot))
                if many > 1:
                    self.refused(options[1:], ballot)
            for _ in range(30):
                self.assertIsNone(check_ballot(options, any_ballot(chance, options)))

    def test_what_is_none_is_refused(self):
        for ballot in BAD + THINGS:
            with self.subTest(ballot=ballot):
                self.refused(ABC, ballot)

    def test_names_of_other_options_are_refused(self):
        self.refused(("a",), ("lets", ("b",)))
        self.refused(("ab", "c"), ("lets", ("a",)))
        self.refused(("ab", "c"), ("order", (("b",),)))
        self.refused(("ab", "c"), ("marks", (("", 3),)))


class Tiers(unittest.TestCase):
    TOLD = (
        (("order", ()), (("a", "b", "c"),)),
        (("order", (("b",),)), (("b",), ("a", "c"))),
        (("order", (("c",), ("a",))), (("c",), ("a",), ("b",))),
        (("order", (("c",), ("b",), ("a",))), (("c",), ("b",), ("a",))),
        (("order", (("c", "a"),)), (("a", "c"), ("b",))),
        (("order", (("c", "b", "a"),)), (("a", "b", "c"),)),
        (("order", (("c",), ("b", "a"))), (("c",), ("a", "b"))),
        (("lets", ()), (("a", "b", "c"),)),
        (("lets", ("c",)), (("c",), ("a", "b"))),
        (("lets", ("c", "b")), (("b", "c"), ("a",))),
        (("lets", ("c", "b", "a")), (("a", "b", "c"),)),
        (("marks", ()), (("a", "b", "c"),)),
        (("marks", (("b", 0),)), (("a", "b", "c"),)),
        (("marks", (("b", 1),)), (("b",), ("a", "c"))),
        (("marks", (("c", 4), ("a", 4))), (("a", "c"), ("b",))),
        (("marks", (("c", 9), ("b", 0))), (("c",), ("a", "b"))),
        (("marks", (("a", 1), ("c", 9), ("b", 2))), (("c",), ("b",), ("a",))),
        (("marks", (("a", 3), ("c", 3), ("b", 3))), (("a", "b", "c"),)),
        (("marks", (("b", 9), ("a", 8))), (("b",), ("a",), ("c",))),
    )

    def test_told_ones(self):
        for ballot, told in self.TOLD:
            with self.subTest(ballot=ballot):
                self.assertEqual(tiers(ABC, ballot), told)
        self.assertEqual(tiers(options=ABC, ballot=("lets", ("b",))), (("b",), ("a", "c")))

    def test_in_the_options_order(self):
        self.assertEqual(tiers(("c", "a", "b"), ("order", (("a", "b", "c"),))), (("c", "a", "b"),))
        self.assertEqual(tiers(("c", "b", "a"), ("lets", ("a", "b"))), (("b", "a"), ("c",)))
        self.assertEqual(tiers(("z", "y", "x"), ("marks", (("x", 2), ("z", 2)))), (("z", "x"), ("y",)))

    def test_a_single_option(self):
        for ballot in (("order", ()), ("order", (("a",),)), ("lets", ()), ("lets", ("a",)), ("marks", ()),
                       ("marks", (("a", 5),))):
            self.assertEqual(tiers(("a",), ballot), (("a",),))

    def test_kinds_and_told_again_alike(self):
        for ballot, told in self.TOLD:
            first, second = tiers(ABC, ballot), tiers(ABC, ballot)
            self.assertEqual(first, second)
            self.assertIs(type(first), tuple)
            self.assertTrue(all(type(tier) is tuple for tier in first))

    def test_many_ballots_by_the_words(self):
        chance = Random(32)
        for _ in range(600):
            options = tuple(chance.sample(chance.choice(("abcdef", LONG_NAMES)), chance.randint(1, 6)))
            ballot = any_ballot(chance, options)
            told = tiers(options, ballot)
            self.assertEqual(sorted(name for tier in told for name in tier), sorted(options))
            where = {name: at for at, tier in enumerate(told) for name in tier}
            for tier in told:
                self.assertTrue(tier)
                self.assertEqual([name for name in options if name in tier], list(tier))
            for one, other in product(options, repeat=2):
                self.assertIs(where[one] < where[other], ahead_told(ballot, one, other))


class Ahead(unittest.TestCase):
    def pairs(self, ballot, options=ABC):
        return "".join(sorted(f" {one}{other}" for one, other in product(options, repeat=2)
                              if ahead(options, ballot, one, other))).strip()

    def test_by_an_order(self):
        self.assertEqual(self.pairs(("order", (("a",), ("b",), ("c",)))), "ab ac bc")
        self.assertEqual(self.pairs(("order", (("c",), ("a",)))), "ab ca cb")
        self.assertEqual(self.pairs(("order", (("b",),))), "ba bc")
        self.assertEqual(self.pairs(("order", (("b", "c"),))), "ba ca")
        self.assertEqual(self.pairs(("order", (("a", "b", "c"),))), "")
        self.assertEqual(self.pairs(("order", ())), "")

    def test_by_lets(self):
        self.assertEqual(self.pairs(("lets", ("c",))), "ca cb")
        self.assertEqual(self.pairs(("lets", ("c", "a"))), "ab cb")
        self.assertEqual(self.pairs(("lets", ("c", "a", "b"))), "")
        self.assertEqual(self.pairs(("lets", ())), "")

    def test_by_marks(self):
        self.assertEqual(self.pairs(("marks", (("c", 1), ("b", 9)))), "ba bc ca")
        self.assertEqual(self.pairs(("marks", (("c", 2), ("b", 2)))), "ba ca")
        self.assertEqual(self.pairs(("marks", (("c", 0),))), "")
        self.assertEqual(self.pairs(("marks", ())), "")

    def test_answers_are_truths_told_again_alike(self):
        chance = Random(33)
        for _ in range(200):
            options = tuple(chance.sample(chance.choice(("abcdef", LONG_NAMES)), chance.randint(1, 6)))
            ballot = any_ballot(chance, options)
            for one, other in product(options, repeat=2):
                for _ in range(2):
                    self.assertIs(ahead(options, ballot, one, other), ahead_told(ballot, one, other))

    def test_an_option_and_itself(self):
        for ballot in GOOD:
            for name in ABC:
                self.assertIs(ahead(ABC, ballot, name, name), False)

    def test_by_names(self):
        self.assertIs(ahead(options=ABC, ballot=("lets", ("b",)), one="b", other="a"), True)
        self.assertIs(ahead(other="b", one="a", ballot=("lets", ("b",)), options=ABC), False)

    def test_the_first_that_is_none_is_refused(self):
        for ballot in GOOD:
            for thing in (*THINGS, "d", "ab", "abc", "A", " a", ABC, ["a"], ("a",)):
                with self.subTest(ballot=ballot, thing=thing):
                    for one, other, told in ((thing, "a", thing), ("a", thing, thing), (thing, "d", thing),
                                             ("e", thing, "e"), (thing, thing, thing)):
                        with self.assertRaises(NoOption) as caught:
                            ahead(ABC, ballot, one, other)
                        self.assertIs(type(caught.exception), NoOption)
                        self.assertIs(caught.exception.name, told)


if __name__ == "__main__":
    unittest.main()
