"""[2.1], [2.2]: sums, what meets them, and papers that nothing does."""

import unittest
from fractions import Fraction
from random import Random

from tests.samples import EqualToAll
from voicefold.errors import BadSums, PollError
from voicefold.shares import Share
from voicefold.sums import check_sums, met_by, shows_met, shows_unmet, unmet

MOST_ROWS = 30
MOST_PARTS = 12


def row(parts, least):
    """A row of whole numbers, or of shares."""
    return (tuple(part if isinstance(part, Share) else Share(part) for part in parts),
            least if isinstance(least, Share) else Share(least))


def sums_of(*rows):
    return [row(parts, least) for parts, least in rows]


def shares(*numbers):
    return tuple(number if isinstance(number, Share) else Share(number) for number in numbers)


def fraction(share):
    return Fraction(share.num, share.over)


def together(parts, weights):
    return sum((fraction(part) * fraction(weight) for part, weight in zip(parts, weights)), Fraction(0))


def is_met(sums, paper, parts):
    """The words of [2.1] on what meets sums."""
    if type(paper) is not tuple or len(paper) != parts or not all(type(share) is Share for share in paper):
        return False
    if any(fraction(share) < 0 for share in paper):
        return False
    return all(together(told, paper) >= fraction(least) for told, least in sums)


def is_unmet(sums, paper, parts):
    """The words of [2.2] on a paper that sums can't be met."""
    if type(paper) is not tuple or len(paper) != len(sums) or not all(type(share) is Share for share in paper):
        return False
    if any(fraction(share) < 0 for share in paper):
        return False
    if any(together([told[place] for told, _ in sums], paper) > 0 for place in range(parts)):
        return False
    return together([least for _, least in sums], paper) > 0


GOOD = (
    [],
    sums_of(((), 0)),
    sums_of(((), -1), ((), 1)),
    sums_of(((1,), 1)),
    sums_of(((Share(1, 2), -3), Share(-7, 5)), ((0, 0), 0)),
    [row([1] * MOST_PARTS, 1)],
    [row([], 0)] * MOST_ROWS,
    [row(range(MOST_PARTS), 3)] * MOST_ROWS,
)

ROW = row((1, 2), 3)
BAD = (
    None, 7, True, "", "sums", (), (ROW,), {}, {0: ROW}, set(), b"", object(), EqualToAll(), Share(1), range(0),
    [None], [7], [True], ["ab"], [[]], [()], [(shares(1),)], [(shares(1), Share(1), Share(1))], [list(ROW)], [Share(1)],
    [ROW, None], [ROW, ()], [None, ROW], [EqualToAll()], [{}],
    [([Share(1)], Share(1))], [(None, Share(1))], [(Share(1), Share(1))], [("ab", Share(1))], [({}, Share(1))],
    [((1,), Share(1))], [((True,), Share(1))], [(("x",), Share(1))], [((None,), Share(1))], [((1.0,), Share(1))],
    [((Share,), Share(1))], [((Share(1), 1), Share(1))], [(((),), Share(1))], [((EqualToAll(),), Share(1))],
    [(shares(1), 1)], [(shares(1), True)], [(shares(1), "x")], [(shares(1), None)], [(shares(1), 0.5)], [((), 0)],
    [(shares(1), shares(1))], [(shares(1), Share)], [(shares(1), [])], [(shares(1), EqualToAll())],
    [row((1,), 1), row((1, 2), 1)], [row((), 1), row((1,), 1)], [row((1, 2), 1)] * 5 + [row((1,), 1)],
    [row((1, 2), 1), row((1,), 1), row((1, 2), 1)],
    [row([1] * (MOST_PARTS + 1), 1)], [row([0] * (MOST_PARTS + 1), 0)] * 2,
    [row([1], 0)] * (MOST_ROWS + 1), [row([], 0)] * (MOST_ROWS + 1),
)

# Each with whether they can be met.
TOLD = (
    (sums_of(((1,), 1)), True),
    (sums_of(((-1,), 1)), False),
    (sums_of(((-1,), 0)), True),
    (sums_of(((-1,), -1)), True),
    (sums_of(((0,), 0)), True),
    (sums_of(((0,), 1)), False),
    (sums_of(((0,), -1)), True),
    (sums_of(((0,), Share(1, 10 ** 30))), False),
    (sums_of(((1,), 5), ((-1,), -5)), True),
    (sums_of(((1,), 5), ((-1,), Share(-49, 10))), False),
    (sums_of(((1,), Share(1, 3)), ((-1,), Share(-1, 3))), True),
    (sums_of(((1,), Share(1, 3)), ((-1,), Share(-33, 100))), False),
    (sums_of(((1, 1), 2), ((-1, 0), -1), ((0, -1), -1)), True),
    (sums_of(((1, 1), 2), ((-1, 0), -1), ((0, -1), 0)), False),
    (sums_of(((1, -1), 1), ((-1, 1), 1)), False),
    (sums_of(((1, -1), 1), ((-1, 1), -1)), True),
    (sums_of(((1, -2), 1), ((-2, 1), 1)), False),
    (sums_of(((2, -1), 1), ((-1, 2), 1)), True),
    (sums_of(((3, -2), 1), ((3, -2), 1)), True),
    (sums_of(((1, 0), 3), ((-1, 0), -2), ((1, 0), 3)), False),
    (sums_of(((0, 1), 3), ((0, -1), -3)), True),
    (sums_of(((0, 1, 0), 3), ((0, -1, 0), -3), ((0, 1, 0), 4)), False),
    (sums_of(((1, -1, 0), 1), ((0, 1, -1), 1), ((-1, 0, 1), 1)), False),
    (sums_of(((1, -1, 0), 1), ((0, 1, -1), 1), ((-1, 0, 1), -2)), True),
    (sums_of(((1, -1, 0), 1), ((0, 1, -1), 1), ((-1, 0, 1), Share(-19, 10))), False),
    (sums_of(((Share(1, 2), Share(1, 3)), 1), ((-1, 0), Share(-3, 2)), ((0, -1), Share(-3, 4))), True),
    (sums_of(((Share(1, 2), Share(1, 3)), 1), ((-1, 0), Share(-3, 2)), ((0, -1), Share(-74, 100))), False),
    (sums_of(((), 0)), True),
    (sums_of(((), -3), ((), 0)), True),
    (sums_of(((), -3), ((), 1)), False),
)


def any_sums(chance):
    """Sums of any size and kind, many of them just met or just not met."""
    rows, parts, most = chance.randint(1, 8), chance.randint(0, 5), chance.choice((1, 3, 50))
    place = [chance.randint(0, 4) for _ in range(parts)]
    found = []
    for _ in range(rows):
        told = [Share(chance.randint(-most, most), chance.choice((1, 1, 1, 2, 6))) for _ in range(parts)]
        exact = together(told, [Share(number) for number in place])
        least = chance.choice((exact, exact, Fraction(chance.randint(-most, most)), exact + Fraction(1, 9)))
        found.append(row(told, Share(least.numerator, least.denominator)))
        if chance.random() < 0.2:
            found.append(row([Share(0).less(part) for part in told], Share(-least.numerator, least.denominator)))
    return found


def great_sums(chance, kind):
    """Thirty rows of twelve parts: met by a tuple, or contradicted by a mix of the others in the last row."""
    place = [chance.randint(0, 9) for _ in range(MOST_PARTS)]
    rows = []
    for _ in range(MOST_ROWS - 1):
        parts = [chance.randint(-9, 9) for _ in range(MOST_PARTS)]
        rows.append((parts, sum(part * at for part, at in zip(parts, place))))
    often = [chance.randint(0, 3) for _ in rows]
    mixed = [-sum(many * parts[at] for many, (parts, _) in zip(often, rows)) for at in range(MOST_PARTS)]
    least = -sum(many * least for many, (_, least) in zip(often, rows))
    rows.append((mixed, least + (1 if kind == "unmet" else 0)))
    chance.shuffle(rows)
    return sums_of(*rows)


class Checked(unittest.TestCase):
    def test_good_sums(self):
        for sums in GOOD:
            with self.subTest(sums=sums):
                self.assertIsNone(check_sums(sums))
        self.assertIsNone(check_sums(sums=[]))

    def test_no_row_to_thirty_and_no_part_to_twelve(self):
        for rows in range(MOST_ROWS + 1):
            self.assertIsNone(check_sums([row((1, 2), 3)] * rows))
        for parts in range(MOST_PARTS + 1):
            self.assertIsNone(check_sums([row([1] * parts, 3)] * 2))

    def test_what_are_none_is_refused_by_all(self):
        for sums in BAD:
            for paper in (None, (), shares(1), shares(1, 1), EqualToAll(), [], sums):
                with self.subTest(sums=sums, paper=paper):
                    for asked in (lambda: check_sums(sums), lambda: met_by(sums), lambda: unmet(sums),
                                  lambda: shows_met(sums, paper), lambda: shows_unmet(sums, paper),
                                  lambda: met_by(sums, many=2), lambda: unmet(sums, many=2),
                                  lambda: shows_met(sums, paper, many=2), lambda: shows_unmet(sums, paper, many=2)):
                        with self.assertRaises(PollError) as caught:
                            asked()
                        self.assertIs(type(caught.exception), BadSums)


class Found(unittest.TestCase):
    def gone_through(self, sums, many=0):
        """Just one of both is told, and keeps to the words."""
        paper, against = met_by(sums, many=many), unmet(sums, many=many)
        parts = len(sums[0][0]) if sums else many
        if paper is not None:
            self.assertIsNone(against)
            self.assertTrue(is_met(sums, paper, parts))
            self.assertIs(shows_met(sums, paper, many=many), True)
            self.assertIs(shows_unmet(sums, paper, many=many), is_unmet(sums, paper, parts))
            return True
        self.assertTrue(is_unmet(sums, against, parts))
        self.assertIs(shows_unmet(sums, against, many=many), True)
        self.assertIs(shows_met(sums, against, many=many), is_met(sums, against, parts))
        return False

    def test_told_ones(self):
        for sums, can_be in TOLD:
            with self.subTest(sums=sums):
                self.assertIs(self.gone_through(sums), can_be)

    def test_rows_twice_and_in_another_order(self):
        for sums, can_be in TOLD:
            with self.subTest(sums=sums):
                self.assertIs(self.gone_through(sums + sums), can_be)
                self.assertIs(self.gone_through(sums[::-1]), can_be)

    def test_rows_turned_about_must_just_be_met(self):
        for sums, _ in TOLD:
            turned = [(tuple(Share(0).less(part) for part in parts), Share(0).less(least)) for parts, least in sums]
            with self.subTest(sums=sums):
                paper = met_by(sums + turned)
                self.assertEqual(paper is None, not self.gone_through(sums + turned))
                if paper is not None:
                    self.assertEqual([together(parts, paper) for parts, _ in sums],
                                     [fraction(least) for _, least in sums])

    def test_many_sums(self):
        chance = Random(21)
        told = [self.gone_through(any_sums(chance)) for _ in range(1500)]
        self.assertGreater(min(told.count(True), told.count(False)), 300)

    def test_thirty_rows_of_twelve_parts(self):
        chance = Random(22)
        for _ in range(10):
            self.assertTrue(self.gone_through(great_sums(chance, "met")))
            self.assertFalse(self.gone_through(great_sums(chance, "unmet")))

    def test_great_numbers(self):
        great = 10 ** 60
        sums = sums_of(((Share(great, 3), -great), 1), ((-1, Share(3, great)), Share(-1, great)), ((1, 1), great))
        self.gone_through(sums)
        self.assertTrue(self.gone_through(sums_of(((Share(1, great),), great), ((-1,), -great * great))))
        self.assertFalse(self.gone_through(sums_of(((Share(1, great),), great), ((-1,), 1 - great * great))))

    def test_no_rows_with_many(self):
        for many in range(MOST_PARTS + 1):
            with self.subTest(many=many):
                self.assertTrue(self.gone_through([], many))
                paper = met_by([], many=many)
                self.assertEqual(len(paper), many)
                self.assertIsNone(unmet([], many=many))
                self.assertIs(shows_met([], shares(*range(many)), many=many), True)
                self.assertIs(shows_met([], shares(*range(many + 1)), many=many), False)
                self.assertIs(shows_met([], shares(*[-1] * many), many=many), many == 0)
                self.assertIs(shows_unmet([], (), many=many), False)
        self.assertEqual(met_by([]), ())
        self.assertIsNone(unmet([]))
        self.assertIs(shows_met([], ()), True)
        self.assertIs(shows_met([], shares(1)), False)
        self.assertIs(shows_unmet([], ()), False)

    def test_many_is_not_looked_at_where_there_are_rows(self):
        for sums, _ in TOLD:
            for many in (0, 1, 5, 12, -1, 99, True, "x", None):
                with self.subTest(sums=sums, many=many):
                    paper, against = met_by(sums, many=many), unmet(sums, many=many)
                    self.assertEqual((paper, against), (met_by(sums), unmet(sums)))
                    self.assertIs(shows_met(sums, paper, many=many), paper is not None)
                    self.assertIs(shows_unmet(sums, against, many=many), against is not None)

    def test_many_by_its_name_alone(self):
        for asked in (lambda: met_by([], 2), lambda: unmet([], 2), lambda: shows_met([], (), 2),
                      lambda: shows_unmet([], (), 2)):
            with self.assertRaises(TypeError):
                asked()

    def test_by_names(self):
        sums = sums_of(((1,), 1))
        self.assertTrue(shows_met(sums=sums, paper=met_by(sums=sums), many=1))
        sums = sums_of(((-1,), 1))
        self.assertTrue(shows_unmet(sums=sums, paper=unmet(sums=sums), many=1))


class Shown(unittest.TestCase):
    SUMS = sums_of(((1, 2), 4), ((-1, 0), -2), ((0, 1), Share(1, 2)))
    BARRED = sums_of(((1, -1), 1), ((-1, 1), 0), ((-2, 0), -9))

    def test_tuples_that_meet_and_that_just_do_not(self):
        for paper, told in ((shares(2, 1), True), (shares(0, 2), True), (shares(0, 9), True),
                            (shares(Share(3, 2), Share(5, 4)), True), (shares(Share(3, 2), Share(124, 100)), False),
                            (shares(2, Share(99, 100)), False), (shares(Share(201, 100), 1), False),
                            (shares(0, 0), False), (shares(3, Share(1, 2)), False), (shares(-1, 9), False),
                            (shares(Share(-1, 10 ** 9), 9), False)):
            with self.subTest(paper=paper):
                self.assertEqual(is_met(self.SUMS, paper, 2), told)
                self.assertIs(shows_met(self.SUMS, paper), told)

    def test_papers_that_bar_and_that_just_do_not(self):
        for paper, told in ((shares(1, 1, 0), True), (shares(Share(1, 7), Share(1, 7), 0), True),
                            (shares(20, 20, 1), True), (shares(20, 20, 2), True), (shares(18, 18, 2), False),
                            (shares(19, 19, 2), True), (shares(1, 0, 0), False), (shares(0, 1, 0), False),
                            (shares(0, 0, 0), False), (shares(1, Share(99, 100), 0), False),
                            (shares(Share(99, 100), 1, 0), False), (shares(1, 1, -1), False),
                            (shares(-1, -1, 0), False), (shares(10, 8, 1), True), (shares(9, 7, 1), False)):
            with self.subTest(paper=paper):
                self.assertEqual(is_unmet(self.BARRED, paper, 2), told)
                self.assertIs(shows_unmet(self.BARRED, paper), told)

    def test_a_place_that_comes_to_more_than_nought(self):
        sums = sums_of(((0, 1), 1), ((0, -1), 0))
        self.assertIs(shows_unmet(sums, shares(1, 1)), True)
        self.assertIs(shows_unmet(sums, shares(1, Share(999, 1000))), False)
        self.assertIs(shows_unmet(sums, shares(1, 2)), True)

    def test_other_things(self):
        for sums, good, asked in ((self.SUMS, shares(2, 1), shows_met), (self.BARRED, shares(1, 1, 0), shows_unmet)):
            rest = good[1:]
            self.assertIs(asked(sums, good), True)
            for paper in (good[:-1], good + shares(0), good + good, (), list(good), good[0], None, True, False, 0, 1,
                          "ab", b"ab", {}, dict(enumerate(good)), set(), object(), EqualToAll(), Share,
                          (1,) + rest, (True,) + rest, (2,) + rest, (1.0,) + rest, (None,) + rest, ("1",) + rest,
                          (good[:1],) + rest, ([],) + rest, ({},) + rest, (EqualToAll(),) + rest, (Share,) + rest,
                          good[:-1] + (1,), good[:-1] + (0,), good[:-1] + (None,), good[:-1] + (EqualToAll(),),
                          (good,), ((),), [good], sums, sums[0]):
                with self.subTest(asked=asked.__name__, paper=paper):
                    self.assertIs(asked(sums, paper), False)


class Kept(unittest.TestCase):
    def test_sums_stay_as_they_were(self):
        for sums, _ in TOLD:
            kept, shown = list(sums), repr(sums)
            for _ in range(2):
                check_sums(sums)
                paper, against = met_by(sums), unmet(sums)
                shows_met(sums, paper)
                shows_unmet(sums, against)
            self.assertEqual(repr(sums), shown)
            self.assertEqual(len(sums), len(kept))
            for mine, its in zip(sums, kept):
                self.assertIs(mine, its)

    def test_asked_again_the_same_is_told(self):
        chance = Random(23)
        for _ in range(100):
            sums = any_sums(chance)
            again = [(tuple(Share(part.num, part.over) for part in parts), least) for parts, least in sums]
            self.assertEqual(repr((met_by(sums), unmet(sums))), repr((met_by(again), unmet(again))))

    def test_what_is_done_to_the_list_later_changes_nothing(self):
        sums = sums_of(((1,), 1))
        paper = met_by(sums)
        shown = repr(paper)
        sums.append(row((-1,), 1))
        self.assertEqual(repr(paper), shown)
        self.assertIsNone(met_by(sums))
        sums.pop()
        self.assertEqual(repr(met_by(sums)), shown)

    def test_told_are_tuples_of_shares(self):
        for sums, _ in TOLD:
            for told in (met_by(sums), unmet(sums)):
                if told is not None:
                    self.assertIs(type(told), tuple)
                    self.assertTrue(all(type(share) is Share for share in told))


if __name__ == "__main__":
    unittest.main()
