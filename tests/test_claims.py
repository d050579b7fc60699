"""[8.3], [8.4]: claims, their leads, what they show, and their slack."""

import unittest
from itertools import combinations, permutations
from random import Random

from tests.samples import THINGS, EqualToAll, ahead_told, many_polls, poll_of
from tests.told import alone_first, rounds_told, tally_told, voices_where
from voicefold.claims import claims_for, claims_show, lead, slack
from voicefold.errors import BadClaim, BadPoll, NoOption, PollError
from voicefold.polls import Poll

POLLS = many_polls(83, 5, 120)
SMALL = many_polls(84, 4, 45)
NONE = Poll(("c", "a", "b"))
ONE = Poll(("a",), ((("lets", ()), 3),))
# Of abc: a has 5 first, b 4, c 2; where c has gone b has 6.
CLEAR = Poll(("a", "b", "c"), (*poll_of("abc", "abc 5", "bca 4", "cba 2").voices,
                               (("lets", ("a", "b")), 1), (("marks", (("c", 3), ("b", 3))), 1)))
# All leads are great, and each round's one that goes is far behind.
FAR = poll_of("dbca", "abcd 40", "bacd 30", "cabd 20", "dabc 10")
ALL = (NONE, ONE, CLEAR, FAR, *POLLS)

# No claim by the options a, b, c, whatever else is asked.
NO_CLAIMS = (
    ("before",), ("before", "a"), ("before", "a", "a"), ("before", "a", "d"), ("before", "d", "a"),
    ("before", "a", "b", "c"), ("before", "a", "b", ("a", "b")), ("before", "a", "b", ()), ("before", ("a", "b")),
    ["before", "a", "b"], "before", ("Before", "a", "b"), ("behind", "a", "b"), ("befor", "a", "b"), ("", "a", "b"),
    ("within", "a", "b"), ("within", "a", "b", ()), ("within", "a", "b", ("a",)), ("within", "a", "b", ("b",)),
    ("within", "a", "b", ("a", "c")), ("within", "a", "b", ("b", "c")), ("within", "a", "b", ("b", "a")),
    ("within", "a", "b", ("a", "c", "b")), ("within", "a", "b", ("c", "b", "a")), ("within", "a", "b", ("a", "b", "b")),
    ("within", "a", "b", ("a", "a", "b")), ("within", "a", "b", ("a", "b", "d")), ("within", "a", "b", ["a", "b"]),
    ("within", "a", "b", "ab"), ("within", "a", "b", None), ("within", "a", "b", {"a", "b"}),
    ("within", "a", "b", {"a": 1, "b": 1}), ("within", "a", "b", ("a", "b"), ()), ("within", "a", "a", ("a", "b")),
    ("within", "a", "d", ("a", "b")), ("within", "a", "d", ("a", "d")), ("within", "d", "b", ("a", "b")),
    ("within", ("a", "b"), ("a", "b")), ("within", ("a", "b"), "a", "b"), ["within", "a", "b", ("a", "b")],
    ("Within", "a", "b", ("a", "b")), ("in", "a", "b", ("a", "b")), ("within", "a", None, ("a", "b")),
    ("within", "a", ["b"], ("a", "b")), ("within", "a", "b", (["a"], "b")), ("within", "a", "b", ("a", "b", None)),
    ("within", "a", "b", ("a", "b", 3)), ("before", "a", None), ("before", "a", 1), ("before", ["a"], "b"),
    ("before", "a", ("b",)), (None, "a", "b"), (True, "a", "b"), (["before"], "a", "b"), (EqualToAll(), "a", "b"),
    ("before", EqualToAll(), "b"), ("before", "a", EqualToAll()), ("within", "a", "b", EqualToAll()),
    ("within", "a", "b", (EqualToAll(), EqualToAll())), ("within", "a", "b", ("a", "b", EqualToAll())), ("a", "b"),
    ("a", "b", "before"), ("a", "before", "b"), (), {"before": ("a", "b")}, 3, None, True,
)


def claims_of(options):
    """All claims."""
    found = [("before", one, other) for one, other in permutations(options, 2)]
    for many in range(2, len(options) + 1):
        for lot in combinations(options, many):
            found += [("within", one, other, lot) for one, other in permutations(lot, 2)]
    return found


def lead_told(poll, claim):
    """The words of [8.3]."""
    word, one, other = claim[:3]
    if word == "before":
        return (voices_where(poll, lambda ballot: alone_first(ballot, one, poll.options))
                - voices_where(poll, lambda ballot: ahead_told(ballot, other, one)))
    held = tally_told(poll, claim[3])
    return held[one] - held[other]


def bars_told(claim, going):
    """The words of [8.4] on what bars a going."""
    word, one, other = claim[:3]
    if word == "before":
        return going.index(one) < going.index(other)
    return any(set(going[at:]) == set(claim[3]) and going[at] == one for at in range(len(going)))


def show_told(options, end, claims):
    """The words of [8.4] on what is shown."""
    return all(any(bars_told(claim, going) for claim in claims) for going in permutations(options) if going[-1] != end)


class Lead(unittest.TestCase):
    def test_by_hand(self):
        for claim, told in ((("before", "a", "c"), 5 - (4 + 2 + 1)), (("before", "a", "b"), 5 - (4 + 2 + 1)),
                            (("before", "b", "c"), 4 - 2), (("before", "c", "a"), 2 - (5 + 1)),
                            (("within", "a", "b", ("a", "b", "c")), 1), (("within", "b", "c", ("a", "b", "c")), 2),
                            (("within", "a", "b", ("a", "b")), 5 - 7), (("within", "b", "a", ("a", "b")), 2),
                            (("within", "b", "c", ("b", "c")), 10 - 2), (("within", "c", "b", ("a", "b", "c")), -2)):
            with self.subTest(claim=claim):
                self.assertEqual(lead(CLEAR, claim), told)
                self.assertEqual(lead(poll=CLEAR, claim=claim), told)

    def test_all_claims(self):
        below, nought = 0, 0
        for poll in ALL:
            for claim in claims_of(poll.options):
                told = lead(poll, claim)
                self.assertEqual(told, lead_told(poll, claim))
                self.assertIs(type(told), int)
                below += told < 0
                nought += told == 0
        self.assertTrue(below and nought)

    def test_what_is_none(self):
        for claim in (*THINGS, *NO_CLAIMS):
            for poll in (CLEAR, Poll(("a", "b", "c"))):
                with self.subTest(claim=claim):
                    with self.assertRaises(PollError) as caught:
                        lead(poll, claim)
                    self.assertIs(type(caught.exception), BadClaim)

    def test_the_lot_stands_in_the_polls_order(self):
        self.assertEqual(lead(NONE, ("within", "a", "b", ("c", "a", "b"))), 0)
        for lot in (("a", "b", "c"), ("a", "c", "b"), ("b", "a")):
            with self.assertRaises(BadClaim):
                lead(NONE, ("within", "a", "b", lot))

    def test_of_a_single_option_there_is_no_claim(self):
        for claim in (("before", "a", "a"), ("within", "a", "a", ("a",)), ("before", "a", "b"), *NO_CLAIMS):
            with self.assertRaises(BadClaim):
                lead(ONE, claim)


class ClaimsShow(unittest.TestCase):
    def test_by_hand(self):
        for claims, told in (([], False), ([("before", "a", "b")], False),
                             ([("before", "a", "b"), ("before", "a", "c")], True),
                             ([("before", "a", "b"), ("within", "a", "c", ("a", "c"))], True),
                             ([("before", "a", "b"), ("within", "c", "a", ("a", "c"))], False),
                             ([("before", "b", "c"), ("within", "a", "b", ("a", "b"))], False),
                             ([("within", "a", "b", ("a", "b")), ("within", "a", "c", ("a", "c")),
                               ("within", "a", "b", ("a", "b", "c"))], True)):
            with self.subTest(claims=claims):
                self.assertIs(claims_show(("a", "b", "c"), "a", claims), told)
                self.assertIs(claims_show(options=("a", "b", "c"), end="a", claims=claims), told)

    def test_of_single_options_nothing_is_to_be_barred(self):
        self.assertIs(claims_show(("a",), "a", []), True)
        self.assertIs(claims_show(("a", "b"), "a", []), False)

    def test_all_small_lists(self):
        for options in (("b", "a"), ("c", "a", "b")):
            claims = claims_of(options)
            for many in range(4):
                for listed in combinations(claims, many):
                    for end in options:
                        told = claims_show(options, end, list(listed))
                        self.assertIs(told, show_told(options, end, listed))

    def test_of_four_and_five_options(self):
        chance = Random(85)
        answers = []
        for options, times in (("dabc", 400), ("aebcd", 60)):
            options = tuple(options)
            claims = claims_of(options)
            for claim in claims[:60]:
                self.assertIs(claims_show(options, claim[1], [claim]), show_told(options, claim[1], [claim]))
            for _ in range(times):
                listed = chance.sample(claims, chance.randint(1, len(claims) // 2))
                if chance.random() < 0.5:
                    listed = [claim for claim in listed if claim[1] == options[0] or chance.random() < 0.5]
                told = claims_show(options, options[0], listed)
                answers.append(told)
                self.assertIs(told, show_told(options, options[0], listed))
        self.assertTrue(any(answers) and not all(answers))

    def test_the_end_may_itself_be_barred(self):
        claims = [("before", one, other) for one, other in permutations("abc", 2)]
        for end in "abc":
            self.assertIs(claims_show(("a", "b", "c"), end, claims), True)

    def test_a_claim_told_twice(self):
        claims = [("before", "a", "b"), ("before", "a", "b")]
        self.assertIs(claims_show(("a", "b"), "a", claims), True)
        self.assertIs(claims_show(("a", "b"), "b", claims), False)

    def test_refusals_in_their_order(self):
        bad_options = ((), ("a", "a"), ["a", "b"], "ab", None, ("A",), ("a", 1), ("a", "b", "c", "d", "e", "f", "g"),
                       {"a": 1}, EqualToAll(), *THINGS)
        for options in bad_options:
            for end, claims in (("a", []), ("zz", None), (None, [None])):
                with self.subTest(options=options):
                    with self.assertRaises(PollError) as caught:
                        claims_show(options, end, claims)
                    self.assertIs(type(caught.exception), BadPoll)
        for end in ("d", "", "ab", ["a"], ("a",), *THINGS):
            for claims in ([], None, [None], [("before", "a", "a")]):
                with self.subTest(end=end):
                    with self.assertRaises(NoOption) as caught:
                        claims_show(("a", "b", "c"), end, claims)
                    self.assertIs(caught.exception.name, end)
        good = ("before", "a", "b")
        for claims in (*THINGS, (), (good,), {good: 1}, good, "before", EqualToAll(),
                       [None], [[]], [EqualToAll()],
                       *[[claim] for claim in NO_CLAIMS], *[[good, claim] for claim in NO_CLAIMS],
                       *[[claim, good] for claim in NO_CLAIMS]):
            with self.subTest(claims=claims):
                with self.assertRaises(PollError) as caught:
                    claims_show(("a", "b", "c"), "a", claims)
                self.assertIs(type(caught.exception), BadClaim)

    def test_a_list_that_was_changed(self):
        claims = [("before", "a", "b")]
        self.assertIs(claims_show(("a", "b", "c"), "a", claims), False)
        claims.append(("before", "a", "c"))
        self.assertIs(claims_show(("a", "b", "c"), "a", claims), True)
        claims.pop(0)
        self.assertIs(claims_show(("a", "b", "c"), "a", claims), False)
        self.assertEqual(claims, [("before", "a", "c")])


class ClaimsFor(unittest.TestCase):
    def test_they_hold_show_the_end_and_none_is_too_many(self):
        told, several = 0, 0
        for poll in (*ALL, *SMALL):
            claims = claims_for(poll)
            ends = rounds_told(poll)
            if len(ends) > 1:
                self.assertIsNone(claims)
                several += 1
                continue
            told += 1
            self.assertIs(type(claims), list)
            known = claims_of(poll.options)
            for claim in claims:
                self.assertIn(claim, known)
                self.assertGreater(lead_told(poll, claim), 0)
            self.assertTrue(show_told(poll.options, ends[0], claims))
            for at in range(len(claims)):
                self.assertFalse(show_told(poll.options, ends[0], claims[:at] + claims[at + 1:]), (poll, claims))
            self.assertIs(claims_show(poll.options, ends[0], claims), True)
            self.assertGreaterEqual(slack(poll, claims), 0)
        self.assertGreater(told, 60)
        self.assertGreater(several, 20)

    def test_by_hand(self):
        self.assertEqual(claims_for(ONE), [])
        self.assertEqual(claims_for(poll=ONE), [])
        self.assertIsNone(claims_for(NONE))
        two = claims_for(poll_of("ba", "ab 3", "ba 1"))
        self.assertIn(two, ([("before", "a", "b")], [("within", "a", "b", ("b", "a"))]))

    def test_where_the_only_way_is_by_others_that_go(self):
        # a is ahead at first, b has the most at last: a is not shown to be the end.
        poll = poll_of("abc", "abc 5", "bca 4", "cba 2")
        claims = claims_for(poll)
        self.assertTrue(show_told(poll.options, "b", claims))
        self.assertFalse(show_told(poll.options, "a", claims))

    def test_told_again_alike(self):
        for poll in ALL[:60]:
            first = claims_for(poll)
            if first is not None:
                kept = list(first)
                first.reverse()
                first.clear()
                self.assertEqual(claims_for(poll), kept)

    def test_where_voices_are_told_otherwise_within_the_slack(self):
        chance = Random(86)
        tried = 0
        for poll in (CLEAR, FAR, *SMALL):
            claims = claims_for(poll)
            if claims is None or slack(poll, claims) == 0 or poll.many() > 300:
                continue
            for _ in range(10):
                voices = [ballot for ballot, many in poll.voices for _ in range(many)]
                for at in chance.sample(range(len(voices)), min(slack(poll, claims), len(voices))):
                    voices[at] = ("order", tuple((name,) for name in chance.sample(poll.options, len(poll.options))))
                rows = tuple((ballot, voices.count(ballot)) for ballot in dict.fromkeys(voices))
                if len(rows) > 30:
                    continue
                tried += 1
                told = Poll(poll.options, rows)
                self.assertTrue(all(lead(told, claim) > 0 for claim in claims))
                self.assertEqual(rounds_told(told), rounds_told(poll))
        self.assertGreater(tried, 50)


class Slack(unittest.TestCase):
    def test_by_hand(self):
        poll = poll_of("abc", "abc 9", "bca 5", "cab 2")
        before, within = ("before", "a", "b"), ("within", "a", "b", ("a", "b", "c"))
        # a over b: 9 less 5; within all 9 less 5; c over b in all three less than none; b over c 3, a over c 7.
        for claims, told in (([], 16), ([before], (4 - 1) // 2), ([within], 1),
                             ([("within", "b", "c", ("a", "b", "c"))], 1),
                             ([("within", "a", "c", ("a", "b", "c"))], 3), ([("before", "a", "c")], (9 - 7 - 1) // 2),
                             ([("within", "a", "c", ("a", "b", "c")), before], 1),
                             ([before, ("within", "c", "b", ("a", "b", "c"))], -1),
                             ([("before", "b", "a")], -1), ([("within", "a", "b", ("a", "b"))], (11 - 5 - 1) // 2),
                             ([("before", "a", "c"), before], 0), ([before, before], 1)):
            with self.subTest(claims=claims):
                self.assertEqual(slack(poll, claims), told)
                self.assertEqual(slack(poll=poll, claims=claims), told)

    def test_odd_and_even_leads(self):
        for mine in range(8):
            for its in range(8):
                rows = [row for row in (f"ab {mine}", f"ba {its}") if not row.endswith(" 0")]
                poll = poll_of("ab", *rows)
                told = {1: 0, 2: 0, 3: 1, 4: 1, 5: 2, 6: 2, 7: 3}.get(mine - its, -1)
                for claim in (("before", "a", "b"), ("within", "a", "b", ("a", "b"))):
                    self.assertEqual(slack(poll, [claim]), told)
                self.assertEqual(slack(poll, []), mine + its)

    def test_many_claims(self):
        chance = Random(87)
        for poll in ALL:
            claims = claims_of(poll.options)
            self.assertEqual(slack(poll, []), poll.many())
            for many in range(1, 5):
                listed = chance.sample(claims, min(many, len(claims)))
                if listed:
                    least = min(lead_told(poll, claim) for claim in listed)
                    told = -1 if least <= 0 else next(s for s in range(least) if least - 2 * s in (1, 2))
                    self.assertEqual(slack(poll, listed), told)

    def test_what_are_no_claims(self):
        good = ("before", "a", "b")
        for claims in (*THINGS, (), (good,), {good: 1}, good, "before", EqualToAll(),
                       [EqualToAll()], [[]],
                       *[[claim] for claim in NO_CLAIMS], *[[good, claim] for claim in NO_CLAIMS],
                       *[[claim, good] for claim in NO_CLAIMS]):
            with self.subTest(claims=claims):
                with self.assertRaises(PollError) as caught:
                    slack(CLEAR, claims)
                self.assertIs(type(caught.exception), BadClaim)

    def test_a_list_that_was_changed(self):
        claims = []
        self.assertEqual(slack(CLEAR, claims), 13)
        claims.append(("within", "b", "c", ("b", "c")))
        self.assertEqual(slack(CLEAR, claims), 3)
        claims.append(("before", "c", "a"))
        self.assertEqual(slack(CLEAR, claims), -1)
        self.assertEqual(len(claims), 2)
        claims[0] = None
        with self.assertRaises(BadClaim):
            slack(CLEAR, claims)


if __name__ == "__main__":
    unittest.main()
