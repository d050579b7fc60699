"""[10.1], [10.2]: changed polls, and lies by which voices gain."""

import unittest
from itertools import permutations
from random import Random

from tests.samples import THINGS, EqualToAll, ahead_told, many_polls, poll_of
from tests.told import NO_RULES, end_told, rules_for
from voicefold.errors import BadOrder, BadPoll, BadRule, PollError
from voicefold.lies import changed, ends_of, lie, shows_lie
from voicefold.polls import Poll
from voicefold.rules import end

POLLS = many_polls(101, 3, 24) + many_polls(103, 4, 9, least=4)
MIXED = Poll(("c", "a", "b"), (
    (("order", (("b",), ("c",))), 3),
    (("lets", ("a",)), 2),
    (("marks", (("c", 3), ("b", 3))), 4),
))
ONE = Poll(("a",), ((("lets", ()), 3),))
NONE = Poll(("b", "a", "c"))
# By firsts a wins with 4; c's two voices gain by telling b.
LIARS = poll_of("abc", "abc 4", "bca 3", "cba 2")
ALL = (MIXED, ONE, NONE, LIARS, *POLLS)

NO_PLACES = (-1, 3, 4, 10 ** 9, -3, True, False, "0", "", None, 0.0, 1.0, [0], (0,), {}, EqualToAll(), "a", b"0")
NO_ORDERS = ([], ["c", "a", "b"], "cab", ("c", "a"), ("c", "a", "a"), ("c", "a", "b", "c"), ("c", "a", "d"),
             ("c", "a", "b", "d"), ("c", "a", None), ("c", "a", ["b"]), ("c", "a", EqualToAll()), (), None,
             (("c",), ("a",), ("b",)), (("c", "a", "b"),), {"c": 1, "a": 2, "b": 3}, 3, EqualToAll(),
             ("order", (("c",), ("a",), ("b",))))
NO_MANY = (0, -1, -10 ** 9, True, False, "1", "", None, 1.0, [1], (1,), {}, EqualToAll(), b"1")


def changed_told(poll, at, order, many=1):
    """The words of [10.1]."""
    rows = list(poll.voices)
    ballot, had = rows[at]
    rows[at] = (ballot, had - many)
    rows = [row for row in rows if row[1] > 0] + [(("order", tuple((name,) for name in order)), many)]
    return Poll(poll.options, tuple(rows))


def lies_told(poll, rule, ties, many):
    """The list of all lies, by the rows' and the options' places: the words of [10.2]."""
    before = end_told(poll, rule, ties)
    return [(at, order) for at, (ballot, had) in enumerate(poll.voices) if had >= many
            for order in permutations(poll.options)
            if ahead_told(ballot, end_told(changed_told(poll, at, order, many), rule, ties), before)]


def refused(test, kind, asked, *told, **named):
    with test.assertRaises(PollError) as caught:
        asked(*told, **named)
    test.assertIs(type(caught.exception), kind)


class Changed(unittest.TestCase):
    def test_by_hand(self):
        rows = MIXED.voices
        for at, many, told in ((0, 1, ((rows[0][0], 2), rows[1], rows[2])), (0, 2, ((rows[0][0], 1), rows[1], rows[2])),
                               (0, 3, (rows[1], rows[2])), (1, 1, (rows[0], (rows[1][0], 1), rows[2])),
                               (1, 2, (rows[0], rows[2])), (2, 3, (rows[0], rows[1], (rows[2][0], 1))),
                               (2, 4, (rows[0], rows[1]))):
            for order in permutations("abc"):
                found = changed(MIXED, at, order, many=many)
                last = (("order", ((order[0],), (order[1],), (order[2],))), many)
                self.assertIs(type(found), Poll)
                self.assertEqual(found.options, ("c", "a", "b"))
                self.assertEqual(found.voices, (*told, last))
                if many == 1:
                    self.assertEqual(changed(poll=MIXED, at=at, order=order).voices, found.voices)

    def test_many_polls(self):
        chance = Random(102)
        for poll in ALL:
            for at in range(len(poll.voices)):
                for many in {1, poll.voices[at][1], chance.randint(1, poll.voices[at][1])}:
                    order = tuple(chance.sample(poll.options, len(poll.options)))
                    found = changed(poll, at, order, many=many)
                    self.assertEqual(found.voices, changed_told(poll, at, order, many).voices)
                    self.assertEqual(found.many(), poll.many())

    def test_of_twenty_nine_rows(self):
        rows = tuple((("lets", ("a",)), many) for many in range(1, 30))
        poll = Poll(("a", "b"), rows)
        self.assertEqual(len(changed(poll, 0, ("b", "a")).voices), 29)
        self.assertEqual(len(changed(poll, 28, ("b", "a")).voices), 30)
        self.assertEqual(changed(poll, 28, ("b", "a"), many=29).voices,
                         rows[:28] + ((("order", (("b",), ("a",))), 29),))
        great = Poll(("a",), ((("lets", ()), 10 ** 6),))
        self.assertEqual(changed(great, 0, ("a",), many=10 ** 6).voices, ((("order", (("a",),)), 10 ** 6),))

    def test_the_poll_stays(self):
        for poll in ALL:
            shown = repr(poll)
            for at in range(len(poll.voices)):
                changed(poll, at, poll.options, many=poll.voices[at][1])
            self.assertEqual(repr(poll), shown)

    def test_no_place(self):
        for at in (*NO_PLACES, *[thing for thing in THINGS if thing not in (0, 1)]):
            for order, many in ((("c", "a", "b"), 1), (None, 1), (("c", "a", "b"), 0), (None, None)):
                with self.subTest(at=at):
                    refused(self, BadPoll, changed, MIXED, at, order, many=many)
        refused(self, BadPoll, changed, NONE, 0, ("b", "a", "c"))

    def test_no_order(self):
        for order in (*NO_ORDERS, *THINGS):
            for at in range(3):
                for many in (1, 0, None, 99):
                    with self.subTest(order=order):
                        refused(self, BadOrder, changed, MIXED, at, order, many=many)

    def test_no_many_or_too_many(self):
        for at, had in ((0, 3), (1, 2), (2, 4)):
            for many in (*NO_MANY, *[thing for thing in THINGS if thing not in (1, 7)], had + 1, had + 2, 10 ** 40):
                with self.subTest(at=at, many=many):
                    refused(self, BadPoll, changed, MIXED, at, ("c", "a", "b"), many=many)


class Lie(unittest.TestCase):
    def test_by_hand(self):
        # c's voices have b ahead of a: where both tell b it has 5.
        self.assertEqual(lie(LIARS, "firsts", many=2), (2, ("b", "a", "c")))
        # One voice alone makes it even, 4 and 4: by ties then.
        self.assertIsNone(lie(LIARS, "firsts"))
        self.assertEqual(lie(LIARS, "firsts", ties=("b", "a", "c")), (2, ("b", "a", "c")))
        self.assertEqual(lie(poll=LIARS, rule="firsts", ties=("c", "b", "a"), many=1), (2, ("b", "a", "c")))
        self.assertEqual(lie(LIARS, "firsts", ties=("c", "b", "a"), many=3), (1, ("c", "a", "b")))
        self.assertIsNone(lie(LIARS, "firsts", many=5))
        self.assertIsNone(lie(LIARS, "firsts", many=10 ** 30))
        for rule in rules_for("abc"):
            self.assertIsNone(lie(NONE, rule))
        for rule in rules_for("a"):
            self.assertIsNone(lie(ONE, rule))

    def test_against_going_through_all(self):
        found = {rule: [] for rule in rules_for("a")[:-1]}
        rows_told = set()
        for poll in ALL:
            turned = poll.options[::-1]
            for rule in rules_for(poll.options):
                for ties, many in (((), 1), (poll.options, 2), (turned, 1), (turned, 3)):
                    told = lie(poll, rule, ties=ties, many=many)
                    lies = lies_told(poll, rule, ties, many)
                    self.assertEqual(told, lies[0] if lies else None, (poll, rule, ties, many))
                    found.setdefault(rule, []).append(told)
                    if told is not None:
                        self.assertIs(type(told), tuple)
                        rows_told.add(told[0])
        # Orders of all options let all by, so that none is let by more often than one that was ahead.
        self.assertFalse(any(found.pop("lets")))
        for rule in found:
            if isinstance(rule, str):
                self.assertTrue(any(found[rule]) and not all(found[rule]), rule)
        self.assertGreater(len(rows_told), 2)

    def test_rows_of_fewer_voices_are_passed_over(self):
        poll = poll_of("abc", "cba 1", "abc 5", "cba 1", "cba 2", "bca 4")
        self.assertEqual(lie(poll, "firsts", many=2), (3, ("b", "a", "c")))
        self.assertEqual(lie(poll, "firsts", ties=("b", "a", "c")), (0, ("b", "a", "c")))
        self.assertEqual(lie(poll, "firsts", many=3), (4, ("c", "a", "b")))

    def test_refusals_in_their_order(self):
        for rule in (*NO_RULES, *THINGS):
            for ties in ((), None, ("c", "a")):
                for many in (1, 0, None):
                    refused(self, BadRule, lie, MIXED, rule, ties=ties, many=many)
        for ties in NO_ORDERS:
            if ties != () or isinstance(ties, EqualToAll):
                for many in (1, 0, None):
                    refused(self, BadOrder, lie, MIXED, "firsts", ties=ties, many=many)
        for many in NO_MANY:
            for poll in (MIXED, NONE, ONE):
                refused(self, BadPoll, lie, poll, "firsts", many=many)
                refused(self, BadPoll, lie, poll, "rounds", ties=poll.options[::-1], many=many)
        for asked in (lambda: lie(MIXED, "firsts", ()), lambda: lie(MIXED, "firsts", (), 1)):
            self.assertRaises(TypeError, asked)


class EndsOf(unittest.TestCase):
    def test_by_hand(self):
        told = [(("a", "b", "c"), "a"), (("a", "c", "b"), "a"), (("b", "a", "c"), "b"), (("b", "c", "a"), "b"),
                (("c", "a", "b"), "a"), (("c", "b", "a"), "a")]
        self.assertEqual(ends_of(LIARS, "firsts", 2, many=2), told)
        self.assertEqual(ends_of(poll=LIARS, rule="firsts", at=2, ties=("b", "a", "c")), told)
        self.assertEqual(ends_of(ONE, "points", 0, many=3), [(("a",), "a")])

    def test_each_row_against_the_end_of_changed(self):
        for poll in ALL:
            turned = poll.options[1:] + poll.options[:1]
            for rule in rules_for(poll.options):
                for at, (_, had) in enumerate(poll.voices):
                    for ties, many in (((), 1), (turned, had)):
                        orders = permutations(poll.options)
                        told = [(order, end(changed(poll, at, order, many=many), rule, ties=ties)) for order in orders]
                        found = ends_of(poll, rule, at, ties=ties, many=many)
                        self.assertEqual(found, told)
                        self.assertIs(type(found), list)
                        self.assertEqual(told[-1][1], end_told(changed_told(poll, at, told[-1][0], many), rule, ties))

    def test_told_again_alike(self):
        for poll in ALL[:20]:
            for at in range(len(poll.voices)):
                first = ends_of(poll, "points", at)
                kept = list(first)
                first.reverse()
                first.clear()
                self.assertEqual(ends_of(poll, "points", at), kept)

    def test_refusals_in_their_order(self):
        bad_ties = [ties for ties in NO_ORDERS if isinstance(ties, EqualToAll) or ties != ()]
        for rule in (*NO_RULES, *THINGS):
            for at, ties, many in ((0, (), 1), (None, None, None), (9, (), 1), (0, None, 1), (0, (), 0), (0, (), 99)):
                refused(self, BadRule, ends_of, MIXED, rule, at, ties=ties, many=many)
        for at in NO_PLACES:
            for ties, many in (((), 1), (None, None), (("c", "a"), 1), ((), 0), ((), 99)):
                refused(self, BadPoll, ends_of, MIXED, "firsts", at, ties=ties, many=many)
        for ties in bad_ties:
            for at in range(3):
                for many in (1, 0, None, 99, True):
                    refused(self, BadOrder, ends_of, MIXED, "firsts", at, ties=ties, many=many)
        for many in (*NO_MANY, 5, 99, 10 ** 40):
            for at in range(3):
                refused(self, BadPoll, ends_of, MIXED, "firsts", at, many=many)
                refused(self, BadPoll, ends_of, MIXED, "firsts", at, ties=("a", "b", "c"), many=many)
        for at, had in ((0, 3), (1, 2), (2, 4)):
            self.assertEqual(len(ends_of(MIXED, "firsts", at, many=had)), 6)
            refused(self, BadPoll, ends_of, MIXED, "firsts", at, many=had + 1)
        refused(self, BadPoll, ends_of, NONE, "firsts", 0)


class ShowsLie(unittest.TestCase):
    def test_all_tuples(self):
        answers = []
        for poll in ALL[:20]:
            turned = poll.options[::-1]
            for rule in rules_for(poll.options):
                for ties, many in (((), 1), (turned, 2)):
                    lies = lies_told(poll, rule, ties, many)
                    for at in range(-1, len(poll.voices) + 1):
                        for order in permutations(poll.options):
                            told = shows_lie(poll, rule, (at, order), ties=ties, many=many)
                            self.assertIs(told, (at, order) in lies)
                            answers.append(told)
        self.assertTrue(any(answers) and not all(answers))

    def test_what_lie_tells(self):
        for poll in ALL:
            for rule in rules_for(poll.options):
                told = lie(poll, rule)
                self.assertIs(shows_lie(poll=poll, rule=rule, paper=told), told is not None)

    def test_with_one_thing_otherwise(self):
        at, order = lie(LIARS, "firsts", many=2)
        self.assertIs(shows_lie(LIARS, "firsts", (at, order), many=2), True)
        self.assertIs(shows_lie(LIARS, "firsts", (at, ("b", "c", "a")), many=2), True)
        for paper in ((at, list(order)), [at, order], (at, order, order), (at,), (order, at), (at, "bac"),
                      (at, order[:2]),
                      (at, order + ("a",)), (at, order + ("d",)), (at, ("b", "a", "a")), (at, ("b", "a", "d")),
                      (at, (order,)), ((at, order),), (at, None), (at, ()), (None, order), (True, order),
                      (False, order),
                      (str(at), order), (float(at), order), (3, order), (-1, order), (10 ** 40, order), ([at], order),
                      (at, ("b", "a", None)), (at, ("b", "a", ["c"])), (at, ("b", "a", EqualToAll())),
                      (EqualToAll(), order), (at, EqualToAll()), EqualToAll(), (at, {"b": 1, "a": 1, "c": 1}),
                      {at: order}, None, (), (0, order), (1, order), (at, ("c", "b", "a")), (at, ("a", "b", "c"))):
            with self.subTest(paper=paper):
                self.assertIs(shows_lie(LIARS, "firsts", paper, many=2), False)
        for many in (1, 3, 10 ** 30):
            self.assertIs(shows_lie(LIARS, "firsts", (at, order), many=many), False)
        self.assertIs(shows_lie(LIARS, "firsts", (at, order), ties=("b", "a", "c")), True)
        # A truth is no place, though it stands where a lie's place would.
        poll = poll_of("abc", "abc 4", "cba 2", "bca 3")
        self.assertIs(shows_lie(poll, "firsts", (1, ("b", "a", "c")), many=2), True)
        self.assertIs(shows_lie(poll, "firsts", (True, ("b", "a", "c")), many=2), False)

    def test_things_of_any_kind(self):
        for thing in THINGS:
            for poll in (MIXED, NONE, ONE, LIARS):
                for paper in (thing, (thing, poll.options), (0, thing), (thing, thing), [thing]):
                    self.assertIs(shows_lie(poll, "points", paper), False)

    def test_refusals_in_their_order(self):
        bad_ties = [ties for ties in NO_ORDERS if isinstance(ties, EqualToAll) or ties != ()]
        for paper in (None, (0, ("c", "a", "b")), EqualToAll()):
            for rule in (*NO_RULES, *THINGS):
                for ties, many in (((), 1), (None, None), ((), 0)):
                    refused(self, BadRule, shows_lie, MIXED, rule, paper, ties=ties, many=many)
            for ties in bad_ties:
                for many in (1, 0, None):
                    refused(self, BadOrder, shows_lie, MIXED, "firsts", paper, ties=ties, many=many)
            for many in NO_MANY:
                refused(self, BadPoll, shows_lie, MIXED, "firsts", paper, many=many)


if __name__ == "__main__":
    unittest.main()
