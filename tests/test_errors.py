"""[1.1]: the classes of refusal and what each bears."""

import unittest

from voicefold import errors
from voicefold.errors import (BadBallot, BadClaim, BadMargins, BadOrder, BadPoll, BadRule, BadSums, NoOption, NoShare,
                              PollError)

MADE_AS_POLL_ERROR = (BadBallot, BadPoll, BadOrder, BadRule, BadSums, BadClaim, BadMargins)
ALL = (PollError, *MADE_AS_POLL_ERROR, NoShare, NoOption)


def one_of(kind):
    """A refusal of this class, whatever it is made of."""
    if kind is NoShare:
        return NoShare(3, over=0)
    return kind("some")


def caught_by(kind, refusal):
    """Whether an except of this class catches the refusal."""
    try:
        try:
            raise refusal
        except kind:
            return True
    except Exception:
        return False


class Classes(unittest.TestCase):
    def test_straight_under_the_class_told_and_no_other(self):
        self.assertEqual(PollError.__bases__, (ValueError,))
        self.assertEqual(NoOption.__bases__, (KeyError,))
        for kind in (*MADE_AS_POLL_ERROR, NoShare):
            with self.subTest(kind=kind.__name__):
                self.assertEqual(kind.__bases__, (PollError,))

    def test_none_stands_under_another_one_but_as_told(self):
        for lower in ALL:
            for upper in ALL:
                with self.subTest(lower=lower.__name__, upper=upper.__name__):
                    told = lower is upper or (upper is PollError and lower is not NoOption)
                    self.assertEqual(issubclass(lower, upper), told)

    def test_defined_in_the_file_of_errors(self):
        for kind in ALL:
            with self.subTest(kind=kind.__name__):
                self.assertEqual(kind.__module__, "voicefold.errors")
                self.assertIs(getattr(errors, kind.__name__), kind)

    def test_what_an_except_catches(self):
        for kind in ALL:
            for other in ALL:
                with self.subTest(raised=kind.__name__, caught=other.__name__):
                    told = kind is other or (other is PollError and kind is not NoOption)
                    self.assertEqual(caught_by(other, one_of(kind)), told)

    def test_what_an_except_of_pythons_own_catches(self):
        for kind in ALL:
            with self.subTest(raised=kind.__name__):
                self.assertEqual(caught_by(ValueError, one_of(kind)), kind is not NoOption)
                self.assertEqual(caught_by(KeyError, one_of(kind)), kind is NoOption)
                self.assertEqual(caught_by(LookupError, one_of(kind)), kind is NoOption)


class Why(unittest.TestCase):
    def test_by_place_and_by_name(self):
        for kind in (PollError, *MADE_AS_POLL_ERROR):
            with self.subTest(kind=kind.__name__):
                self.assertEqual(kind("no such row").why, "no such row")
                self.assertEqual(kind(why="no such row").why, "no such row")
                self.assertEqual(kind("").why, "")

    def test_left_out_it_is_a_text(self):
        for kind in (PollError, *MADE_AS_POLL_ERROR):
            with self.subTest(kind=kind.__name__):
                self.assertIsInstance(kind().why, str)

    def test_it_is_shown_however_it_was_handed_in(self):
        self.assertEqual(str(BadPoll("no such row")), "no such row")
        self.assertEqual(str(BadPoll(why="no such row")), "no such row")

    def test_it_is_still_there_where_the_refusal_is_caught(self):
        with self.assertRaises(PollError) as caught:
            raise BadOrder("one is missing")
        self.assertEqual(caught.exception.why, "one is missing")

    def test_nothing_more_is_handed_in(self):
        for kind in (PollError, *MADE_AS_POLL_ERROR):
            with self.subTest(kind=kind.__name__):
                with self.assertRaises(TypeError):
                    kind("one", "two")
                with self.assertRaises(TypeError):
                    kind(name="one")


class NoShares(unittest.TestCase):
    def test_num_by_place_and_by_name(self):
        for refusal in (NoShare(-7, over=5), NoShare(num=-7, over=5), NoShare(over=5, num=-7)):
            self.assertEqual((refusal.num, refusal.over), (-7, 5))

    def test_over_by_its_name_alone(self):
        with self.assertRaises(TypeError):
            NoShare(3, 0)

    def test_neither_is_left_out(self):
        with self.assertRaises(TypeError):
            NoShare(3)
        with self.assertRaises(TypeError):
            NoShare(over=0)

    def test_why_is_there_as_of_each_poll_error(self):
        self.assertIsInstance(NoShare(3, over=0).why, str)

    def test_numbers_too_great_to_be_written_out(self):
        great = 10 ** 5000
        refusal = NoShare(great, over=-great)
        self.assertTrue(refusal.num == great and refusal.over == -great)
        self.assertIsInstance(str(refusal), str)

    def test_fields_are_what_was_handed_in(self):
        num, over = [1], {"a": 1}
        refusal = NoShare(num, over=over)
        self.assertIs(refusal.num, num)
        self.assertIs(refusal.over, over)
        self.assertEqual((num, over), ([1], {"a": 1}))


class NoOptions(unittest.TestCase):
    def test_by_place_and_by_name(self):
        self.assertEqual(NoOption("d").name, "d")
        self.assertEqual(NoOption(name="d").name, "d")

    def test_name_may_be_anything(self):
        for name in (None, True, 7, [1, 2], {"a": []}, ("a", []), object()):
            with self.subTest(name=name):
                self.assertIs(NoOption(name).name, name)

    def test_name_is_not_left_out(self):
        with self.assertRaises(TypeError):
            NoOption()


if __name__ == "__main__":
    unittest.main()
