"""[11.1], [11.2]: promises that rules break."""

import unittest
from itertools import permutations, product

from tests.samples import THINGS, EqualToAll, ahead_told, many_polls, margins_told, poll_of, poll_with, row_of
from tests.told import NO_RULES, alone_first, end_told, lot_told, rules_for, tiers_told, voices_where
from voicefold.errors import BadRule, PollError
from voicefold.polls import Poll
from voicefold.promises import breaks, least_break
from voicefold.rules import RULES, end, lot

PROMISES = ("leader", "trailer", "most", "agreed", "joined", "turned", "lifted", "stays")
OF_A_POLL = ("leader", "trailer", "most", "agreed", "turned")
POLLS = many_polls(111, 5, 42)
NO_VOICES = tuple(Poll(tuple("dbca"[:many])) for many in range(1, 5))
ONE = Poll(("a",), ((("lets", ()), 3),))
RING = poll_with("abc", {"ab": 1, "bc": 2, "ca": 3})
AGREED = Poll(("d", "a", "b", "c"), (row_of("abcd", 2), row_of("bcad", 1), (("lets", ("a", "b", "c")), 1)))
# One voice: where it is left out, none are left.
SINGLE = tuple(Poll(("b", "a", "c"), ((ballot, 1),)) for ballot in
               (("order", (("c",), ("a",), ("b",))), ("lets", ("a",)), ("lets", ("c", "a")), ("marks", ()),
                ("order", ())))
ALL = (*NO_VOICES, ONE, RING, AGREED, *SINGLE, *POLLS)


def others(poll, one):
    return [other for other in poll.options if other != one]


def without_one(poll, at):
    """The rows with one voice of the row at a place less."""
    rows = list(poll.voices)
    rows[at] = (rows[at][0], rows[at][1] - 1)
    return tuple(row for row in rows if row[1] > 0)


def leader_told(rule, poll):
    held = margins_told(poll)
    return any(all(held[one, other] > 0 for other in others(poll, one)) and lot_told(poll, rule) != [one]
               for one in poll.options)


def trailer_told(rule, poll):
    held = margins_told(poll)
    return len(poll.options) > 1 and any(all(held[other, one] > 0 for other in others(poll, one))
                                         for one in lot_told(poll, rule))


def most_told(rule, poll):
    firsts = {one: voices_where(poll, lambda ballot: alone_first(ballot, one, poll.options)) for one in poll.options}
    many = sum(many for _, many in poll.voices)
    return any(firsts[one] > many - firsts[one] and lot_told(poll, rule) != [one] for one in poll.options)


def agreed_told(rule, poll):
    return bool(poll.voices) and any(all(ahead_told(ballot, one, other) for ballot, _ in poll.voices)
                                     for other in lot_told(poll, rule) for one in others(poll, other))


def joined_told(rule, poll, other):
    common = [one for one in lot_told(poll, rule) if one in lot_told(other, rule)]
    return bool(common) and lot_told(Poll(poll.options, poll.voices + other.voices), rule) != common


def turned_told(rule, poll):
    rows = tuple((("order", tuple(reversed(tiers_told(poll.options, ballot)))), many) for ballot, many in poll.voices)
    first, second = lot_told(poll, rule), lot_told(Poll(poll.options, rows), rule)
    return len(poll.options) > 1 and len(first) == len(second) == 1 and first == second


def lifted_told(rule, poll, at, option):
    rest = [tuple(name for name in tier if name != option) for tier in tiers_told(poll.options, poll.voices[at][0])]
    ballot = ("order", ((option,), *[tier for tier in rest if tier]))
    changed = Poll(poll.options, without_one(poll, at) + ((ballot, 1),))
    return option in lot_told(poll, rule) and option not in lot_told(changed, rule)


def stays_told(rule, poll, at):
    left = Poll(poll.options, without_one(poll, at))
    return ahead_told(poll.voices[at][0], end_told(left, rule), end_told(poll, rule))


BY_WORD = {"leader": leader_told, "trailer": trailer_told, "most": most_told, "agreed": agreed_told,
           "joined": joined_told, "turned": turned_told, "lifted": lifted_told, "stays": stays_told}


def cases_of(promise, poll):
    """All cases of a promise of one poll; of joined with a few others of its options."""
    if promise == "joined":
        same = [other for other in ALL if len(other.options) == len(poll.options)][:6]
        renamed = [Poll(poll.options, rename(other, poll.options)) for other in same]
        told = [(poll, other) for other in (poll, Poll(poll.options), *renamed)]
        return [(one, other) for one, other in told if len(one.voices + other.voices) <= 30]
    if promise == "stays":
        return [(poll, at) for at in range(len(poll.voices))]
    if promise == "lifted":
        return [(poll, at, option) for at in range(len(poll.voices)) for option in poll.options]
    return [(poll,)]


def rename(poll, options):
    """The rows of a poll, by other options."""
    to = dict(zip(poll.options, options))

    def renamed(told):
        if isinstance(told, tuple):
            return tuple(renamed(part) for part in told)
        return to.get(told, told)

    return tuple(((ballot[0], renamed(ballot[1])), many) for ballot, many in poll.voices)


def refused(test, asked, *told, **named):
    with test.assertRaises(PollError) as caught:
        asked(*told, **named)
    test.assertIs(type(caught.exception), BadRule)


class Breaks(unittest.TestCase):
    def test_by_hand(self):
        # a is ahead of each other one by 5 to 4; b has 4 first, c 3, a 2.
        leading = poll_of("abc", "bac 4", "cab 3", "abc 2")
        self.assertIs(breaks("firsts", "leader", (leading,)), True)
        self.assertIs(breaks("ways", "leader", (leading,)), False)
        self.assertIs(breaks(rule="rounds", promise="leader", case=(leading,)), True)
        self.assertIs(breaks("top", "leader", (RING,)), False)
        # c is behind each other one by 5 to 4, and has the most first.
        trailing = poll_of("abc", "cab 4", "abc 3", "bac 2")
        self.assertIs(breaks("firsts", "trailer", (trailing,)), True)
        self.assertIs(breaks("wins", "trailer", (trailing,)), False)
        most = poll_of("abc", "abc 3", "bca 2")
        self.assertIs(breaks("points", "most", (most,)), True)
        self.assertIs(breaks("lets", "most", (most,)), True)
        self.assertIs(breaks("firsts", "most", (most,)), False)
        # Just half is not more than half.
        self.assertIs(breaks("points", "most", (poll_of("abc", "abc 2", "bca 2"),)), False)
        self.assertIs(breaks("lets", "most", (poll_of("abc", "abc 2", "bca 2"),)), False)
        agreed = poll_of("abc", "abc 1", "bca 1")
        self.assertIs(breaks("top", "agreed", (agreed,)), True)
        self.assertIs(breaks("points", "agreed", (agreed,)), False)
        self.assertIs(breaks("lets", "agreed", (Poll(("a", "b", "c")),)), False)
        self.assertIs(breaks("firsts", "turned", (poll_of("abc", "abc 3", "acb 1", "bca 1"),)), False)
        self.assertIs(breaks("firsts", "turned", (poll_of("abc", "abc 1", "acb 1", "bca 1", "cba 1"),)), True)
        self.assertIs(breaks("lasts", "turned", (poll_of("abc", "abc 1", "cba 1"),)), True)
        # a or c is the end; where one more has a first, b goes and c has more than a.
        lifting = poll_of("abc", "abc 6", "cab 5", "bca 4", "bac 1")
        self.assertIs(breaks("rounds", "lifted", (lifting, 3, "a")), True)
        self.assertIs(breaks("rounds", "lifted", (lifting, 3, "c")), False)
        self.assertIs(breaks("rounds", "lifted", (lifting, 3, "b")), False)
        self.assertIs(breaks("points", "lifted", (lifting, 3, "a")), False)
        self.assertIs(breaks("top", "stays", (poll_of("abc", "bac 1", "cba 1"), 1)), True)
        self.assertIs(breaks("top", "stays", (poll_of("abc", "bac 1", "cba 1"), 0)), False)
        joining = poll_of("abc", "abc 1"), poll_of("abc", "bac 1", "cba 1")
        self.assertIs(breaks("top", "joined", joining), True)
        self.assertIs(breaks("firsts", "joined", joining), False)
        # Nothing in common, nothing broken.
        self.assertIs(breaks("points", "joined", (poll_of("abc", "abc 3"), poll_of("abc", "bca 1"))), False)

    def test_of_a_single_option(self):
        for poll in (ONE, Poll(("a",))):
            for rule in rules_for("a"):
                for promise in PROMISES:
                    for case in cases_of(promise, poll):
                        self.assertIs(breaks(rule, promise, case), False)

    def test_of_no_voices(self):
        for poll in NO_VOICES:
            for rule in rules_for(poll.options):
                for promise in OF_A_POLL:
                    self.assertIs(breaks(rule, promise, (poll,)), BY_WORD[promise](rule, poll))
                    self.assertIs(breaks(rule, promise, (poll,)), False)
                self.assertIs(breaks(rule, "joined", (poll, poll)), False)

    def test_each_promise_by_each_rule_against_the_words(self):
        found = {(promise, truth): 0 for promise in PROMISES for truth in (True, False)}
        for poll in ALL:
            for rule in rules_for(poll.options):
                for promise in PROMISES:
                    for case in cases_of(promise, poll):
                        told = breaks(rule, promise, case)
                        self.assertIs(told, BY_WORD[promise](rule, *case), (rule, promise, case))
                        found[promise, told] += 1
        for key in found:
            self.assertGreater(found[key], 3, key)

    def test_lifted_of_small_polls(self):
        broken = 0
        for poll in (poll_of("abc", "abc 6", "cab 5", "bca 4", "bac 1"), poll_of("abcd", "abcd 3", "cadb 2", "bdca 4"),
                     poll_of("abc", "abc 2", "bca 2", "cab 2", "bac 1"), *SINGLE):
            for rule in rules_for(poll.options):
                for case in cases_of("lifted", poll):
                    told = breaks(rule, "lifted", case)
                    self.assertIs(told, lifted_told(rule, *case))
                    broken += told
        self.assertGreater(broken, 0)

    def test_of_twenty_nine_rows(self):
        rows = tuple(row_of(order, 2) for order in list(permutations("abcde"))[::4])[:29]
        poll = Poll(tuple("abcde"), rows)
        self.assertEqual(len(poll.voices), 29)
        for rule in ("points", "rounds", "ways"):
            for promise in (*OF_A_POLL, "stays", "lifted"):
                for case in cases_of(promise, poll)[:40:7]:
                    self.assertIs(breaks(rule, promise, case), BY_WORD[promise](rule, *case))
            case = (poll, Poll(tuple("abcde"), rows[:1]))
            self.assertIs(breaks(rule, "joined", case), joined_told(rule, *case))

    def test_the_polls_stay(self):
        for poll in ALL[:30]:
            shown = repr(poll)
            for rule in rules_for(poll.options):
                for promise in PROMISES:
                    for case in cases_of(promise, poll)[:3]:
                        kept = repr(case)
                        breaks(rule, promise, case)
                        self.assertEqual(repr(case), kept)
            self.assertEqual(repr(poll), shown)


class Refused(unittest.TestCase):
    def test_no_rule(self):
        for rule in (*NO_RULES, *THINGS, ("weights", (2, 1)), ("weights", (3, 2, 1, 0)), ("weights", (1, 2, 3))):
            for promise in PROMISES:
                with self.subTest(rule=rule, promise=promise):
                    refused(self, breaks, rule, promise, cases_of(promise, RING)[0])
                    refused(self, breaks, rule, promise, None)
                    refused(self, least_break, rule, promise)
                    refused(self, least_break, rule, promise, voices=1)
                    refused(self, least_break, rule, promise, voices=None)
        refused(self, breaks, ("weights", (2, 1, 0)), "leader", (AGREED,))
        self.assertIs(type(breaks(("weights", (3, 2, 1, 0)), "leader", (AGREED,))), bool)

    def test_no_promise(self):
        for promise in (*THINGS, "Leader", "leaders", "lead", "leader ", "best", "firsts", "stay", "", None,
                        ("leader",), ["leader"], EqualToAll(), b"leader", 0, True):
            with self.subTest(promise=promise):
                for case in ((RING,), (RING, RING), (RING, 0), (RING, 0, "a"), None):
                    refused(self, breaks, "points", promise, case)
                    refused(self, breaks, None, promise, case)
                refused(self, least_break, "points", promise)
                refused(self, least_break, "points", promise, voices=0)

    def test_no_case(self):
        other = Poll(("b", "a", "c"), RING.voices)
        cases = {
            "poll": [(RING, RING), (RING, 0), (RING, 0, "a"), (RING, None), (RING, ())],
            "joined": [(RING,), (RING, other), (other, RING), (RING, RING, RING), (RING, ONE), (ONE, RING),
                       (RING, AGREED), (RING, Poll(("a", "b"))), (RING, Poll(("a", "b", "c", "d"))), (RING, None),
                       (RING, 0), (None, RING), (RING, ("a", "b", "c")), [RING, RING], (RING, [RING]),
                       (RING, EqualToAll())],
            "lifted": [(RING,), (RING, 0), (RING, "a"), (RING, "a", 0), (RING, 0, "a", "b"), (RING, 6, "a"),
                       (RING, -1, "a"), (RING, 10 ** 30, "a"), (RING, True, "a"), (RING, False, "a"), (RING, "0", "a"),
                       (RING, None, "a"), (RING, 0.0, "a"), (RING, [0], "a"), (RING, 0, "d"), (RING, 0, "ab"),
                       (RING, 0, ""), (RING, 0, None), (RING, 0, ["a"]), (RING, 0, ("a",)), (RING, 0, EqualToAll()),
                       (RING, EqualToAll(), "a"), [RING, 0, "a"], (None, 0, "a"), (NO_VOICES[2], 0, "b"),
                       (RING, 0, 0), (RING, 0, True), ([RING], 0, "a"), (RING, (0, "a"))],
            "stays": [(RING,), (RING, 6), (RING, -1), (RING, 10 ** 30), (RING, True), (RING, False), (RING, "0"),
                      (RING, None), (RING, 0.0), (RING, [0]), (RING, (0,)), (RING, 0, "a"), (RING, 0, 0), [RING, 0],
                      (None, 0), (NO_VOICES[2], 0), (RING, EqualToAll()), (RING, RING), ([RING], 0), (0, RING)],
        }
        always = [RING, [RING], {RING.options: RING}, (), None, (None,), ("a",), (RING.options,), ((RING,),), ([RING],),
                  (RING.voices,), "leader", 0, EqualToAll(), (EqualToAll(),), (RING.options, RING.voices), *THINGS]
        for promise in PROMISES:
            for case in (*cases.get(promise, cases["poll"]), *always):
                with self.subTest(promise=promise, case=case):
                    for rule in ("points", "rounds", ("weights", (2, 1, 0)), None):
                        refused(self, breaks, rule, promise, case)

    def test_no_voices(self):
        for voices in (0, -1, 5, 6, 100, 10 ** 30, True, False, "3", "", None, 1.0, 3.5, [3], (3,), {}, EqualToAll(),
                       b"3", *[thing for thing in THINGS if thing != 1 or isinstance(thing, (bool, float))]):
            with self.subTest(voices=voices):
                refused(self, least_break, "points", "leader", voices=voices)
                refused(self, least_break, "wins", "leader", voices=voices)
        with self.assertRaises(TypeError):
            least_break("points", "leader", 3)


ORDERS = [tuple(name) for name in ("abc", "acb", "bac", "bca", "cab", "cba")]


def polls_told(many):
    """The polls of [11.2] of so many voices, in the order told."""
    numbers = sorted((told for told in product(range(many + 1), repeat=6) if sum(told) == many), reverse=True)
    return [Poll(("a", "b", "c"), tuple(row_of(order, own) for order, own in zip(ORDERS, told) if own))
            for told in numbers]


SMALL_POLLS = {many: polls_told(many) for many in range(1, 5)}


def cases_told(promise, many):
    """All cases of [11.2] of just so many voices, in the order told."""
    if promise == "joined":
        return [pair for own in range(1, many) for pair in product(SMALL_POLLS[own], SMALL_POLLS[many - own])]
    return [case for poll in SMALL_POLLS[many] for case in cases_of(promise, poll)]


CASES = {(promise, many): cases_told(promise, many) for promise in PROMISES for many in range(1, 5)}


def least_told(rule, promise):
    """A dict of the first case that breaks the promise, by each number of voices."""
    found, case = {}, None
    for many in range(1, 5):
        case = case or next((told for told in CASES[promise, many] if BY_WORD[promise](rule, *told)), None)
        found[many] = case
    return found


def shown(case):
    return None if case is None else tuple(part.voices if isinstance(part, Poll) else part for part in case)


class LeastBreak(unittest.TestCase):
    RULES = (*RULES, ("weights", (2, 1, 0)), ("weights", (1, 1, 0)), ("weights", (1, 0, 0)), ("weights", (0, 0, 0)))

    def test_by_hand(self):
        self.assertEqual(shown(least_break("points", "leader")), ((row_of("abc", 2), row_of("bca", 1)),))
        self.assertIsNone(least_break("points", "leader", voices=2))
        self.assertEqual(shown(least_break("firsts", "leader")), ((row_of("abc"), row_of("bac"), row_of("cab")),))
        self.assertEqual(shown(least_break("lasts", "most", voices=1)), ((row_of("abc"),),))
        self.assertIsNone(least_break(rule="wins", promise="leader", voices=4))
        self.assertIsNone(least_break("firsts", "joined", voices=4))
        self.assertIsNone(least_break("top", "joined", voices=1))
        self.assertEqual(shown(least_break("top", "stays")), ((row_of("bac"), row_of("cba")), 1))
        self.assertEqual(shown(least_break("top", "joined")), ((row_of("abc"),), (row_of("bac"), row_of("cba"))))

    def test_against_going_through_all_cases(self):
        answers = {promise: set() for promise in PROMISES}
        for promise in PROMISES:
            for rule in self.RULES:
                told = {voices: least_break(rule, promise, voices=voices) for voices in range(1, 5)}
                found = least_told(rule, promise)
                for voices in range(1, 5):
                    self.assertEqual(shown(told[voices]), shown(found[voices]), (rule, promise, voices))
                    answers[promise].add(shown(told[voices]))
                self.assertEqual(shown(least_break(rule, promise)), shown(told[3]))
                if told[4] is not None:
                    self.assertIs(type(told[4]), tuple)
                    self.assertIs(breaks(rule, promise, told[4]), True)
                    self.assertTrue(all(part.options == ("a", "b", "c") for part in told[4] if isinstance(part, Poll)))
        for promise in PROMISES:
            if promise != "lifted":
                self.assertGreater(len(answers[promise]), 1, promise)

    def test_told_again_alike(self):
        for promise in PROMISES:
            for rule in ("points", "top"):
                self.assertEqual(repr(least_break(rule, promise)), repr(least_break(rule, promise)))

    def test_lots_that_the_cases_tell(self):
        # The lot of both polls has c; c is not all of the lot of both joined, or not in it.
        poll, other = least_break("rounds", "joined", voices=4)
        common = [one for one in lot(poll, "rounds") if one in lot(other, "rounds")]
        self.assertTrue(common)
        self.assertNotEqual(lot(poll.joined(other), "rounds"), common)
        poll, at = least_break("uncovered", "stays", voices=4)
        left = Poll(poll.options, without_one(poll, at))
        self.assertTrue(ahead_told(poll.voices[at][0], end(left, "uncovered"), end(poll, "uncovered")))


if __name__ == "__main__":
    unittest.main()
