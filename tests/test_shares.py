"""[1.3]: shares, and what [2] says of them."""

import unittest
from fractions import Fraction
from itertools import product

from voicefold.errors import NoShare
from voicefold.shares import Share, shares_sum

# Eighty figures each, and nothing in common that lowest terms would take away.
LONG = 10 ** 79 + 9
LONGER = 3 ** 167

SAMPLES = [Share(0), Share(1), Share(-1), Share(2), Share(1, 2), Share(-1, 2), Share(3, 4), Share(-3, 4), Share(7, 3),
           Share(-7, 3), Share(5, 6), Share(LONG, LONGER), Share(-LONGER, LONG)]


def fields(share):
    return (share.num, share.over)


def as_fraction(share):
    return Fraction(share.num, share.over)


def fields_of_fraction(fraction):
    return (fraction.numerator, fraction.denominator)


class Made(unittest.TestCase):
    def test_by_place_by_name_and_over_left_out(self):
        self.assertEqual(fields(Share(3, 4)), (3, 4))
        self.assertEqual(fields(Share(num=3, over=4)), (3, 4))
        self.assertEqual(fields(Share(over=4, num=3)), (3, 4))
        self.assertEqual(fields(Share(3, over=4)), (3, 4))
        self.assertEqual(fields(Share(3)), (3, 1))
        self.assertEqual(fields(Share(num=-3)), (-3, 1))

    def test_num_is_not_left_out(self):
        with self.assertRaises(TypeError):
            Share()
        with self.assertRaises(TypeError):
            Share(over=4)

    def test_lowest_terms(self):
        for told, kept in (((6, 8), (3, 4)), ((8, 6), (4, 3)), ((8, 4), (2, 1)), ((5, 5), (1, 1)), ((7, 3), (7, 3))):
            with self.subTest(told=told):
                self.assertEqual(fields(Share(*told)), kept)

    def test_a_minus_stands_at_num(self):
        for told, kept in (((3, -4), (-3, 4)), ((-3, 4), (-3, 4)), ((-3, -4), (3, 4)), ((6, -8), (-3, 4)),
                           ((-6, -8), (3, 4)), ((5, -1), (-5, 1)), ((-5, -5), (1, 1))):
            with self.subTest(told=told):
                self.assertEqual(fields(Share(*told)), kept)

    def test_nought_is_nought_over_one(self):
        for over in (1, 2, 5, -1, -8, 10 ** 80):
            with self.subTest(over=over):
                self.assertEqual(fields(Share(0, over)), (0, 1))

    def test_all_small_numbers(self):
        for num, over in product(range(-12, 13), repeat=2):
            if over != 0:
                with self.subTest(num=num, over=over):
                    self.assertEqual(fields(Share(num, over)), fields_of_fraction(Fraction(num, over)))

    def test_numbers_of_eighty_figures(self):
        self.assertEqual(len(str(LONG)), 80)
        self.assertEqual(len(str(LONGER)), 80)
        self.assertEqual(fields(Share(LONG, LONGER)), fields_of_fraction(Fraction(LONG, LONGER)))
        common = 7 ** 47
        self.assertEqual(fields(Share(4 * common, -6 * common)), (-2, 3))
        self.assertEqual(fields(Share(10 ** 79, 10 ** 78)), (10, 1))

    def test_fields_are_ints(self):
        for share in SAMPLES:
            self.assertIs(type(share.num), int)
            self.assertIs(type(share.over), int)

    def test_over_nought_is_refused(self):
        for num in (0, 6, -6, LONG, -LONG):
            with self.subTest(num=num):
                with self.assertRaises(NoShare) as caught:
                    Share(num, 0)
                self.assertIs(type(caught.exception), NoShare)
                self.assertEqual((caught.exception.num, caught.exception.over), (num, 0))
        with self.assertRaises(NoShare) as caught:
            Share(over=0, num=9)
        self.assertEqual((caught.exception.num, caught.exception.over), (9, 0))

    def test_over_nought_is_refused_whatever_num_is(self):
        for num in ("x", None, [1], {}):
            with self.subTest(num=num):
                with self.assertRaises(NoShare) as caught:
                    Share(num, 0)
                self.assertIs(caught.exception.num, num)
                self.assertEqual(caught.exception.over, 0)


class Equal(unittest.TestCase):
    def test_where_both_fields_are(self):
        self.assertIs(Share(3, 4) == Share(-6, -8), True)
        self.assertIs(Share(0, 5) == Share(0), True)
        self.assertIs(Share(3, 4) != Share(6, 8), False)
        self.assertIs(Share(LONG, LONGER) == Share(2 * LONG, 2 * LONGER), True)

    def test_unlike_shares(self):
        for first, second in product(range(len(SAMPLES)), repeat=2):
            with self.subTest(first=first, second=second):
                self.assertIs(SAMPLES[first] == SAMPLES[second], first == second)
                self.assertIs(SAMPLES[first] != SAMPLES[second], first != second)
        self.assertIs(Share(3, 4) == Share(3, 5), False)
        self.assertIs(Share(3, 4) == Share(5, 4), False)
        self.assertIs(Share(3, 4) == Share(-3, 4), False)

    def test_nothing_else_is_equal(self):
        class Alike:
            num = 1
            over = 1

        for thing in (1, True, 1.0, "1", "Share(1, 1)", None, (1, 1), [1, 1], {"num": 1, "over": 1}, Fraction(1), Share,
                      Alike(), object()):
            with self.subTest(thing=thing):
                self.assertIs(Share(1) == thing, False)
                self.assertIs(thing == Share(1), False)
                self.assertIs(Share(1) != thing, True)

    def test_in_lists_and_tuples(self):
        self.assertEqual([Share(1, 2), (Share(3),)], [Share(2, 4), (Share(3, 1),)])
        self.assertIn(Share(2, 4), [Share(3), Share(1, 2)])
        self.assertNotIn(3, [Share(3)])


class Shown(unittest.TestCase):
    def test_by_repr(self):
        for share, text in ((Share(3, 4), "Share(3, 4)"), (Share(6, -8), "Share(-3, 4)"), (Share(5), "Share(5, 1)"),
                            (Share(0, 9), "Share(0, 1)"), (Share(-5), "Share(-5, 1)")):
            with self.subTest(text=text):
                self.assertEqual(repr(share), text)
        self.assertEqual(repr([Share(1, 2)]), "[Share(1, 2)]")

    def test_repr_makes_the_share_again(self):
        for share in SAMPLES:
            with self.subTest(share=share):
                self.assertEqual(eval(repr(share), {"Share": Share}), share)

    def test_by_str(self):
        for share, text in ((Share(3, 4), "3/4"), (Share(6, -8), "-3/4"), (Share(5), "5"), (Share(0, 9), "0"),
                            (Share(-8, 4), "-2"), (Share(LONG, LONGER), f"{LONG}/{LONGER}")):
            with self.subTest(text=text):
                self.assertEqual(str(share), text)
                self.assertEqual(f"{share}", text)


class Reckoned(unittest.TestCase):
    def test_plus(self):
        self.assertEqual(fields(Share(1, 2).plus(Share(1, 3))), (5, 6))
        self.assertEqual(fields(Share(1, 2).plus(Share(-1, 2))), (0, 1))
        self.assertEqual(fields(Share(1, 6).plus(other=Share(1, 3))), (1, 2))

    def test_less(self):
        self.assertEqual(fields(Share(1, 2).less(Share(1, 3))), (1, 6))
        self.assertEqual(fields(Share(1, 3).less(Share(1, 2))), (-1, 6))
        self.assertEqual(fields(Share(1, 3).less(other=Share(1, 3))), (0, 1))

    def test_times(self):
        self.assertEqual(fields(Share(2, 3).times(Share(3, 4))), (1, 2))
        self.assertEqual(fields(Share(2, 3).times(Share(0))), (0, 1))
        self.assertEqual(fields(Share(-2, 3).times(other=Share(3))), (-2, 1))

    def test_by(self):
        self.assertEqual(fields(Share(2, 3).by(Share(3, 4))), (8, 9))
        self.assertEqual(fields(Share(2, 3).by(Share(-4))), (-1, 6))
        self.assertEqual(fields(Share(0).by(other=Share(-4, 5))), (0, 1))

    def test_below(self):
        self.assertIs(Share(1, 3).below(Share(1, 2)), True)
        self.assertIs(Share(1, 2).below(Share(1, 3)), False)
        self.assertIs(Share(1, 2).below(Share(2, 4)), False)
        self.assertIs(Share(-1, 2).below(other=Share(-1, 3)), True)
        self.assertIs(Share(-1, 3).below(other=Share(-1, 2)), False)
        self.assertIs(Share(-1).below(Share(0)), True)

    def test_all_samples_with_all_samples(self):
        for one, other in product(SAMPLES, repeat=2):
            left, right = as_fraction(one), as_fraction(other)
            with self.subTest(one=one, other=other):
                self.assertEqual(fields(one.plus(other)), fields_of_fraction(left + right))
                self.assertEqual(fields(one.less(other)), fields_of_fraction(left - right))
                self.assertEqual(fields(one.times(other)), fields_of_fraction(left * right))
                self.assertIs(one.below(other), left < right)
                if right != 0:
                    self.assertEqual(fields(one.by(other)), fields_of_fraction(left / right))

    def test_told_are_shares(self):
        one, other = Share(1, 2), Share(3)
        for told in (one.plus(other), one.less(other), one.times(other), one.by(other)):
            self.assertIs(type(told), Share)

    def test_by_nought_is_refused_with_the_own_num(self):
        for share in SAMPLES:
            for nought in (Share(0), Share(0, -7), share.less(share)):
                with self.subTest(share=share):
                    with self.assertRaises(NoShare) as caught:
                        share.by(nought)
                    self.assertIs(type(caught.exception), NoShare)
                    self.assertEqual((caught.exception.num, caught.exception.over), (share.num, 0))
        with self.assertRaises(NoShare) as caught:
            Share(6, -8).by(other=Share(0))
        self.assertEqual((caught.exception.num, caught.exception.over), (-3, 0))


class Summed(unittest.TestCase):
    def test_of_many_of_one_of_none(self):
        self.assertEqual(fields(shares_sum([Share(1, 2), Share(1, 3), Share(1, 6)])), (1, 1))
        self.assertEqual(fields(shares_sum([Share(1, 2), Share(-3, 4), Share(0), Share(2)])), (7, 4))
        self.assertEqual(fields(shares_sum([Share(-3, 4)])), (-3, 4))
        self.assertEqual(fields(shares_sum([])), (0, 1))
        self.assertIs(type(shares_sum([])), Share)

    def test_of_all_samples(self):
        told = sum([as_fraction(share) for share in SAMPLES], Fraction(0))
        self.assertEqual(fields(shares_sum(SAMPLES)), fields_of_fraction(told))
        self.assertEqual(shares_sum(list(reversed(SAMPLES))), shares_sum(SAMPLES))

    def test_by_its_name(self):
        self.assertEqual(fields(shares_sum(shares=[Share(1, 4), Share(1, 4)])), (1, 2))
        self.assertEqual(fields(shares_sum(shares=[])), (0, 1))

    def test_the_list_may_hold_one_share_twice(self):
        half = Share(1, 2)
        self.assertEqual(shares_sum([half, half, half]), Share(3, 2))


class Unchanged(unittest.TestCase):
    def test_what_was_reckoned_with_stays_as_it_was(self):
        for one, other in product(SAMPLES, repeat=2):
            before = (fields(one), fields(other))
            one.plus(other), one.less(other), one.times(other), one.below(other), one == other, repr(one), str(one)
            try:
                one.by(other)
            except NoShare:
                pass
            self.assertEqual((fields(one), fields(other)), before)

    def test_a_share_reckoned_with_itself(self):
        share = Share(3, 4)
        told = (share.plus(share), share.less(share), share.times(share), share.by(share))
        self.assertEqual([fields(one) for one in told], [(3, 2), (0, 1), (9, 16), (1, 1)])
        self.assertIs(share.below(share), False)
        self.assertEqual(fields(share), (3, 4))

    def test_a_new_share_is_told(self):
        share, nought, whole = Share(3, 4), Share(0), Share(1)
        for told in (share.plus(nought), share.less(nought), share.times(whole), share.by(whole), shares_sum([share])):
            self.assertEqual(told, share)
            self.assertIsNot(told, share)

    def test_the_list_summed_stays_as_it_was(self):
        shares = [Share(1, 2), Share(2, 3), Share(-5)]
        kept = list(shares)
        shares_sum(shares)
        self.assertEqual(len(shares), 3)
        for at in range(3):
            self.assertIs(shares[at], kept[at])
        self.assertEqual([fields(share) for share in shares], [(1, 2), (2, 3), (-5, 1)])

    def test_what_is_done_to_the_list_later_changes_no_sum(self):
        shares = [Share(1, 2)]
        total = shares_sum(shares)
        shares.append(Share(5))
        self.assertEqual(fields(total), (1, 2))


class Interface(unittest.TestCase):
    def test_each_method_stands_in_the_class_itself(self):
        for name in ("__init__", "__eq__", "__repr__", "__str__", "plus", "less", "times", "by", "below"):
            with self.subTest(name=name):
                self.assertIn(name, vars(Share))

    def test_fields_are_set_on_each_share(self):
        self.assertEqual(vars(Share(6, 8)), {"num": 3, "over": 4})

    def test_defined_in_the_file_of_shares(self):
        self.assertEqual((Share.__module__, shares_sum.__module__), ("voicefold.shares", "voicefold.shares"))


if __name__ == "__main__":
    unittest.main()
