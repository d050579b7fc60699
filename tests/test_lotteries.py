"""[9.1]: lotteries that no option beats."""

import unittest
from fractions import Fraction
from itertools import combinations, product
from random import Random

from tests.samples import (THINGS, EqualByHash, EqualToAll, LONG_NAMES, many_polls, margins_told, poll_of, poll_with,
                           row_of)
from voicefold.lotteries import lottery, shows_lottery
from voicefold.majorities import leader
from voicefold.polls import Poll
from voicefold.shares import Share

POLLS = many_polls(91, 6, 200)
RING = poll_with("abc", {"ab": 1, "bc": 2, "ca": 3})
EVEN_RING = poll_with("cab", {"ab": 1, "bc": 1, "ca": 1})
LINE = poll_with("cab", {"ab": 1, "bc": 2, "ac": 3})
FIVE_RING = poll_with("eabcd",
                      {"ab": 3, "bc": 3, "cd": 3, "de": 3, "ea": 3, "ac": 1, "bd": 1, "ce": 1, "da": 1, "eb": 1})
NO_VOICES = tuple(Poll(tuple("fadbce"[:many])) for many in range(1, 7))
ONE = Poll(("a",), ((("lets", ()), 3),))
GREAT = poll_with("bcadf", {"ab": 10 ** 6, "bc": 999999, "ca": 10 ** 6, "cd": 999998, "db": 10 ** 6, "fa": 10 ** 6,
                            "bf": 777777, "df": 1, "ad": 5})
ALL = (RING, EVEN_RING, LINE, FIVE_RING, ONE, GREAT, Poll(LONG_NAMES), *NO_VOICES, *POLLS)
HALF, ONE_SHARE, NOUGHT = Share(1, 2), Share(1), Share(0)


def odd_polls(seed, how_many):
    """Polls in which all margins of two unlike options are odd."""
    chance = Random(seed)
    found = []
    for _ in range(how_many):
        names = chance.sample("abcdef", chance.randint(1, 6))
        rows = [row_of(chance.sample(names, len(names)), chance.randint(1, 9)) for _ in range(chance.randint(1, 12))]
        if sum(many for _, many in rows) % 2 == 0:
            rows.append(row_of(names, 1))
        found.append(Poll(tuple(names), tuple(rows)))
    return found


ODD = odd_polls(92, 120)


def is_lottery_told(poll, paper):
    """The words of [9.1]."""
    if type(paper) is not dict or len(paper) != len(poll.options):
        return False
    if not all(type(name) is str and name in poll.options for name in paper):
        return False
    if not all(type(share) is Share for share in paper.values()):
        return False
    parts = {name: Fraction(share.num, share.over) for name, share in paper.items()}
    held = margins_told(poll)
    return (min(parts.values()) >= 0 and sum(parts.values()) == 1
            and all(sum(parts[one] * held[one, other] for one in poll.options) >= 0 for other in poll.options))


def solved(rows):
    """The one solution of as many equations as unknowns, each row with its right side last; None where none or more."""
    rows = [list(row) for row in rows]
    for at in range(len(rows)):
        by = next((row for row in range(at, len(rows)) if rows[row][at] != 0), None)
        if by is None:
            return None
        rows[at], rows[by] = rows[by], rows[at]
        rows[at] = [part / rows[at][at] for part in rows[at]]
        for row in range(len(rows)):
            if row != at:
                rows[row] = [part - rows[row][at] * own for part, own in zip(rows[row], rows[at])]
    return [row[-1] for row in rows]


def sole_lottery(poll):
    """The unbeaten lottery of a poll of odd margins, by going through all sets of options that may have a share."""
    held = margins_told(poll)
    found = []
    for many in range(1, len(poll.options) + 1, 2):
        for lot in combinations(poll.options, many):
            # In a set of shares above 0 all sums are 0: one of them is told by the others.
            rows = [[Fraction(held[one, other]) for one in lot] + [Fraction(0)] for other in lot[1:]]
            parts = solved(rows + [[Fraction(1)] * (many + 1)])
            if parts is None or min(parts) <= 0:
                continue
            paper = {name: NOUGHT for name in poll.options}
            paper.update({name: Share(part.numerator, part.denominator) for name, part in zip(lot, parts)})
            if is_lottery_told(poll, paper):
                found.append(paper)
    return found


class Lottery(unittest.TestCase):
    def test_by_hand(self):
        # a over b 2, b over c 4, c over a 6: each has the share of the margin between the other two.
        self.assertEqual(lottery(RING), {"a": Share(1, 3), "b": Share(1, 2), "c": Share(1, 6)})
        self.assertEqual(lottery(poll=EVEN_RING), {"c": Share(1, 3), "a": Share(1, 3), "b": Share(1, 3)})
        self.assertEqual(lottery(LINE), {"c": NOUGHT, "a": ONE_SHARE, "b": NOUGHT})
        self.assertEqual(lottery(ONE), {"a": ONE_SHARE})
        self.assertEqual(lottery(Poll(("a",))), {"a": ONE_SHARE})

    def test_unbeaten_by_the_words(self):
        for poll in (*ALL, *ODD):
            told = lottery(poll)
            self.assertIs(type(told), dict)
            self.assertEqual(list(told), list(poll.options))
            self.assertTrue(is_lottery_told(poll, told), (poll, told))
            self.assertIs(shows_lottery(poll, told), True)

    def test_a_leader_has_it_all(self):
        leaders = 0
        for poll in (*ALL, *ODD):
            found = leader(poll)
            if found is not None:
                leaders += 1
                self.assertEqual(lottery(poll), {name: ONE_SHARE if name == found else NOUGHT for name in poll.options})
        self.assertGreater(leaders, 20)

    def test_where_all_margins_are_odd_it_is_the_only_one(self):
        rings = 0
        for poll in ODD:
            found = sole_lottery(poll)
            self.assertEqual(len(found), 1)
            self.assertEqual(lottery(poll), found[0])
            rings += sum(share.num > 0 for share in found[0].values()) > 1
        self.assertGreater(rings, 10)

    def test_told_again_alike(self):
        for poll in ALL:
            first = lottery(poll)
            kept = list(first.items())
            first.clear()
            first["zz"] = HALF
            self.assertEqual(list(lottery(poll).items()), kept)

    def test_the_poll_stays(self):
        for poll in ALL[:40]:
            shown = repr(poll)
            paper = lottery(poll)
            told = repr(paper)
            shows_lottery(poll, paper)
            self.assertEqual((repr(poll), repr(paper)), (shown, told))


class ShowsLottery(unittest.TestCase):
    def test_any_unbeaten_one(self):
        poll = Poll(("c", "a", "b"))
        for paper in ({"a": HALF, "b": HALF, "c": NOUGHT}, {"b": Share(1, 7), "c": Share(2, 7), "a": Share(4, 7)},
                      {"a": ONE_SHARE, "b": NOUGHT, "c": NOUGHT}):
            self.assertIs(shows_lottery(poll, paper), True)
            self.assertIs(shows_lottery(poll=poll, paper=paper), True)
        # b and c are alike, and a beats both of them by 0: any shares, but none beaten.
        poll = poll_with("abcd", {"ad": 1, "bd": 1, "cd": 1})
        self.assertIs(shows_lottery(poll, {"d": NOUGHT, "a": Share(1, 5), "c": Share(3, 5), "b": Share(1, 5)}), True)
        self.assertIs(shows_lottery(poll, {"d": Share(1, 10 ** 9), "a": Share(10 ** 9 - 1, 10 ** 9), "c": NOUGHT,
                                           "b": NOUGHT}), False)

    def test_keys_in_any_order(self):
        for poll in ALL[:60]:
            paper = lottery(poll)
            self.assertIs(shows_lottery(poll, {name: paper[name] for name in reversed(list(paper))}), True)

    def test_all_tenths_against_the_words(self):
        answers = []
        for poll in (RING, EVEN_RING, LINE, Poll(("a", "b", "c")), poll_of("abc", "abc 1", "bac 1"),
                     poll_of("abc", "abc 2", "bca 2", "cab 2")):
            for parts in product(range(-2, 13), repeat=3):
                if sum(parts) in (11, 12, 13):
                    paper = {name: Share(part, 12) for name, part in zip("abc", parts)}
                    answers.append(shows_lottery(poll, paper))
                    self.assertIs(answers[-1], is_lottery_told(poll, paper))
        self.assertTrue(any(answers) and not all(answers))

    def test_with_one_thing_otherwise(self):
        for poll in (*ALL[:40], *ODD[:30]):
            paper = lottery(poll)
            for name in poll.options:
                share = paper[name]
                without = {other: paper[other] for other in paper if other != name}
                others = [share.plus(Share(1, 10 ** 6)), share.less(Share(1, 10 ** 6)), share.plus(ONE_SHARE),
                          Share(-1), share.num, (share.num, share.over), True, False, 1, 0, 1.0, None, str(share),
                          [share], "a", EqualToAll(), Fraction(share.num, share.over), Share, Share(share.num + 7)]
                self.assertIs(shows_lottery(poll, without), False)
                for other in others:
                    self.assertIs(shows_lottery(poll, {**paper, name: other}), False)
                for key in ("zz", name.upper(), 1, None, (name,), "", True, Poll, 0.5):
                    self.assertIs(shows_lottery(poll, {**without, key: share}), False)
                    self.assertIs(shows_lottery(poll, {**paper, key: NOUGHT}), False)

    def test_below_nought(self):
        poll = Poll(("a", "b", "c"))
        for parts in ((2, -1, 0), (-1, 1, 1), (0, -1, 2), (-1, -1, 3)):
            paper = {name: Share(part) for name, part in zip("abc", parts)}
            self.assertIs(shows_lottery(poll, paper), False)
        self.assertIs(shows_lottery(poll, {"a": Share(-1, 10 ** 9), "b": Share(10 ** 9 + 1, 10 ** 9), "c": NOUGHT}),
                      False)

    def test_moved_shares_of_odd_polls(self):
        for poll in ODD:
            paper = lottery(poll)
            for one, other in combinations(poll.options, 2):
                for by in (Share(1, 10 ** 9), Share(-1, 10 ** 9)):
                    moved = {**paper, one: paper[one].plus(by), other: paper[other].less(by)}
                    self.assertIs(shows_lottery(poll, moved), False)

    def test_things_of_any_kind(self):
        papers = (*THINGS, [("a", ONE_SHARE)], (("a", ONE_SHARE),), [ONE_SHARE], ONE_SHARE, {"a"}, "a", {},
                  {"a": {}}, {EqualToAll: ONE_SHARE}, {None: ONE_SHARE}, {("a",): ONE_SHARE}, {1: ONE_SHARE})
        for poll in (ONE, Poll(("a", "b")), RING):
            for paper in papers:
                with self.subTest(paper=paper):
                    self.assertIs(shows_lottery(poll, paper), False)
                    for name in poll.options:
                        self.assertIs(shows_lottery(poll, {**lottery(poll), name: paper}),
                                      type(paper) is Share and lottery(poll)[name] == paper)

    def test_keys_that_tell_that_they_are_equal_to_anything(self):
        self.assertIs(shows_lottery(ONE, {EqualByHash("a"): ONE_SHARE}), False)
        paper = lottery(RING)
        for name in paper:
            told = {other: paper[other] for other in paper if other != name}
            told[EqualByHash(name)] = paper[name]
            self.assertEqual(len(told), 3)
            self.assertIs(shows_lottery(RING, told), False)

    def test_a_dict_that_was_changed(self):
        paper = lottery(RING)
        paper["a"], paper["b"] = paper["b"], paper["a"]
        self.assertIs(shows_lottery(RING, paper), False)
        paper["a"], paper["b"] = paper["b"], paper["a"]
        self.assertIs(shows_lottery(RING, paper), True)
        paper["d"] = NOUGHT
        self.assertIs(shows_lottery(RING, paper), False)
        del paper["d"]
        self.assertIs(shows_lottery(RING, paper), True)


if __name__ == "__main__":
    unittest.main()
