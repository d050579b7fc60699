"""[5.1], [5.2], [5.3]: who beats whom, the top lot, who is uncovered, and papers of both."""

import unittest
from itertools import combinations, permutations, product

from tests.samples import THINGS, EqualToAll, many_polls, margins_told, poll_of, poll_with
from voicefold.errors import NoOption, PollError
from voicefold.majorities import (beats, covers, leader, shows_top, shows_uncovered, top_lot, top_paper, trailer,
                                  uncovered_lot, uncovered_paper)
from voicefold.polls import Poll

POLLS = many_polls(51, 6, 150)
RING = poll_with("abc", {"ab": 1, "bc": 2, "ca": 3})
# a, b and c in a ring ahead of d, which is ahead of e and f, which are alike.
RING_AHEAD = poll_with("fbdaec", {"ab": 1, "bc": 1, "ca": 1, "ad": 1, "bd": 1, "cd": 1, "ae": 1, "be": 1, "ce": 1,
                                  "af": 1, "bf": 1, "cf": 1, "de": 1, "df": 1})
LINE = poll_with("cab", {"ab": 1, "bc": 1, "ac": 1})
NONE = Poll(("b", "a", "c"))
ONE = Poll(("a",), ((("lets", ()), 3),))
ALL = (RING, RING_AHEAD, LINE, NONE, ONE, *POLLS)


def others_in(poll, option):
    return [other for other in poll.options if other != option]


def dominant_lots(poll):
    """All sets of options of which each beats each one that is not in it, the least first."""
    held = margins_told(poll)
    for many in range(1, len(poll.options) + 1):
        for lot in combinations(poll.options, many):
            if all(held[one, other] > 0 for one in lot for other in poll.options if other not in lot):
                yield list(lot)


def sign(number):
    return (number > 0) - (number < 0)


def covers_told(held, options, one, other):
    """The words of [5.3]."""
    return held[one, other] > 0 and all(sign(held[one, third]) >= sign(held[other, third])
                                        for third in options if third not in (one, other))


def is_name_of(poll, thing):
    return type(thing) is str and thing in poll.options


def are_names_of(poll, things):
    return all(is_name_of(poll, thing) for thing in things) and len(set(things)) == len(things)


def is_top_told(poll, option, paper):
    """The words of [5.2] on a paper."""
    held = margins_told(poll)
    if type(paper) is not tuple or len(paper) != 2 or type(paper[0]) is not str or type(paper[1]) is not list:
        return False
    word, told = paper
    if word == "in":
        others = others_in(poll, option)
        return len(told) == len(others) and all(
            type(way) is tuple and way and are_names_of(poll, way) and way[0] == option and way[-1] == other
            and all(held[here, there] >= 0 for here, there in zip(way, way[1:]))
            for way, other in zip(told, others))
    return (word == "out" and len(told) > 0 and are_names_of(poll, told) and option not in told
            and all(held[one, other] > 0 for one in told for other in poll.options if other not in told))


def is_uncovered_told(poll, option, paper):
    """The words of [5.3] on a paper."""
    held = margins_told(poll)
    if type(paper) is not tuple or len(paper) != 2 or type(paper[0]) is not str:
        return False
    word, told = paper
    if word == "out":
        return is_name_of(poll, told) and covers_told(held, poll.options, told, option)
    if word != "in" or type(told) is not list:
        return False
    others = others_in(poll, option)
    if len(told) != len(others) or not all(is_name_of(poll, reason) for reason in told):
        return False
    for reason, other in zip(told, others):
        if reason == option and held[other, option] > 0:
            return False
        if reason != option and (reason == other or sign(held[other, reason]) >= sign(held[option, reason])):
            return False
    return True


def spoilt(paper, options):
    """Papers with one thing otherwise; some of them may be papers, too."""
    word, told = paper
    for other in ("in", "out", "", "IN", "inn", "ou", None, True, ["in"], b"in", EqualToAll()):
        yield other, told
    yield from ((), (word,), (told,), (word, told, None), [word, told], (told, word), (word, None), word, told)
    yield word, tuple(told)
    yield word, "".join(name for part in told for name in part)
    if type(told) is str:
        for other in (*options, "zz", "", None, EqualToAll(), [told], (told,), told + told):
            yield word, other
        return
    yield word, told[::-1]
    yield word, told + told
    yield word, dict.fromkeys(range(len(told)))
    for at, part in enumerate(told):
        yield word, told[:at] + told[at + 1:]
        yield word, told[:at] + [part, part] + told[at + 1:]
        others = [None, True, 0, [], {}, "", "zz", "abc", EqualToAll(), list(part), part[::-1], part[1:], part[:-1],
                  part + part, part[:1] + part, (), ("zz",), (None,), *options, *permutations(options, 1)]
        if type(part) is tuple:
            others += [(EqualToAll(),) * len(part), part[:1] + ("zz",) + part[1:], part[:1] + (None,) + part[1:]]
            others += [part[:1] + (name,) + part[1:] for name in options]
            others += [part[:1] + part[-1:], [*part], (list(part),)]
        for other in others:
            yield word, told[:at] + [other] + told[at + 1:]
    for name in (*options, "zz", None, [], EqualToAll()):
        yield word, told + [name]
        yield word, [name]
    yield word, []


def lots_of(options):
    """All lists of unlike options, in one order each, and the empty one."""
    return [list(lot) for many in range(len(options) + 1) for lot in combinations(options, many)]


class Refused(unittest.TestCase):
    """What several tests ask of functions that are asked of options."""

    def first_of_two_is_refused(self, asked):
        for thing in (*THINGS, "d", "ab", "", ["a"], ("a",)):
            for poll in (RING, NONE):
                for one, other, told in ((thing, "a", thing), ("a", thing, thing), (thing, "d", thing),
                                         ("e", thing, "e"),
                                         (thing, thing, thing)):
                    with self.subTest(asked=asked.__name__, one=one, other=other):
                        with self.assertRaises(KeyError) as caught:
                            asked(poll, one, other)
                        self.assertIs(type(caught.exception), NoOption)
                        self.assertNotIsInstance(caught.exception, PollError)
                        self.assertIs(caught.exception.name, told)

    def the_option_is_refused(self, asked):
        for thing in (*THINGS, "d", "ab", "", ["a"], ("a",)):
            with self.subTest(thing=thing):
                with self.assertRaises(NoOption) as caught:
                    asked(RING, thing)
                self.assertIs(caught.exception.name, thing)


class Beats(Refused):
    def test_each_two_options(self):
        for poll in ALL:
            held = margins_told(poll)
            for one, other in product(poll.options, repeat=2):
                self.assertIs(beats(poll, one, other), held[one, other] > 0)

    def test_by_one_voice_by_none_and_itself(self):
        poll = poll_of("ab", "ab 3", "ba 2")
        self.assertIs(beats(poll, "a", "b"), True)
        self.assertIs(beats(poll=poll, one="b", other="a"), False)
        self.assertIs(beats(poll, "a", "a"), False)
        alike = poll_of("ab", "ab 2", "ba 2")
        self.assertIs(beats(alike, "a", "b"), False)
        self.assertIs(beats(alike, "b", "a"), False)
        self.assertIs(beats(NONE, "a", "b"), False)

    def test_the_first_that_is_none_is_refused(self):
        self.first_of_two_is_refused(beats)


class Leader(unittest.TestCase):
    def test_told_ones(self):
        for poll, first, last in ((LINE, "a", "c"), (RING, None, None), (NONE, None, None), (ONE, "a", "a"),
                                  (Poll(("b",)), "b", "b"), (RING_AHEAD, None, None),
                                  (poll_with("bac", {"ab": 1, "ac": 2}), "a", None),
                                  (poll_with("bac", {"ca": 1, "ba": 2}), None, "a"),
                                  (poll_with("abc", {"ab": 1}), None, None),
                                  (poll_of("ab", "ba 1"), "b", "a"), (poll_of("ab", "ba 1", "ab 1"), None, None),
                                  (poll_with("dabc", {"ab": 1, "bc": 1, "ca": 1, "da": 1, "db": 1, "dc": 1}), "d",
                                   None),
                                  (poll_with("abcd", {"ab": 1, "bc": 1, "ca": 1, "ad": 1, "bd": 1, "cd": 1}), None,
                                   "d")):
            with self.subTest(poll=poll):
                self.assertEqual((leader(poll), trailer(poll)), (first, last))
                self.assertEqual((leader(poll=poll), trailer(poll=poll)), (first, last))

    def test_many_polls_by_the_words(self):
        for poll in ALL:
            held = margins_told(poll)
            first = [one for one in poll.options if all(held[one, other] > 0 for other in others_in(poll, one))]
            last = [one for one in poll.options if all(held[other, one] > 0 for other in others_in(poll, one))]
            self.assertEqual([leader(poll), trailer(poll)], [(first + [None])[0], (last + [None])[0]])


class TopLot(Refused):
    def test_told_ones(self):
        for poll, lot in ((LINE, ["a"]), (RING, ["a", "b", "c"]), (NONE, ["b", "a", "c"]), (ONE, ["a"]),
                          (RING_AHEAD, ["b", "a", "c"]), (poll_with("cba", {"ab": 1}), ["c", "b", "a"]),
                          (poll_with("cba", {"ac": 1, "bc": 1}), ["b", "a"]),
                          (poll_with("dcba", {"ab": 1, "bc": 1, "cd": 1, "ad": 1, "bd": 1}), ["c", "b", "a"])):
            with self.subTest(poll=poll):
                self.assertEqual(top_lot(poll), lot)
                self.assertEqual(top_lot(poll=poll), lot)

    def test_the_least_of_all_lots(self):
        for poll in ALL:
            self.assertEqual(top_lot(poll), next(dominant_lots(poll)))

    def test_with_the_options_in_another_order(self):
        for poll in (RING, RING_AHEAD, LINE, *POLLS[:40]):
            turned = Poll(poll.options[::-1], poll.voices)
            self.assertEqual(top_lot(turned), top_lot(poll)[::-1])
            self.assertEqual(uncovered_lot(turned), uncovered_lot(poll)[::-1])

    def test_the_told_list_is_the_askers_own(self):
        for poll in (RING, RING_AHEAD, LINE, ONE):
            for asked in (top_lot, uncovered_lot):
                told = asked(poll)
                kept = list(told)
                told.clear()
                self.assertEqual(asked(poll), kept)
                self.assertIs(type(asked(poll)), list)


class TopPaper(Refused):
    def test_in_just_where_it_is_in_the_lot(self):
        for poll in ALL:
            for option in poll.options:
                paper = top_paper(poll, option)
                self.assertEqual(paper[0], "in" if option in next(dominant_lots(poll)) else "out")
                self.assertTrue(is_top_told(poll, option, paper))
                self.assertIs(shows_top(poll, option, paper), True)

    def test_by_names_and_of_a_single_option(self):
        self.assertEqual(top_paper(poll=ONE, option="a"), ("in", []))
        self.assertIs(shows_top(poll=ONE, option="a", paper=("in", [])), True)
        self.assertIs(shows_top(ONE, "a", ("out", [])), False)
        self.assertIs(shows_top(ONE, "a", ("out", ["a"])), False)

    def test_told_again_alike_where_the_list_was_emptied(self):
        for poll in (RING, RING_AHEAD, LINE, NONE):
            for option in poll.options:
                told = top_paper(poll, option)
                shown = repr(told)
                told[1].clear()
                self.assertEqual(repr(top_paper(poll, option)), shown)

    def test_all_lots_of_out(self):
        for poll in ALL[:40]:
            lots = [lot for lot in dominant_lots(poll)]
            for option in poll.options:
                for lot in lots_of(poll.options):
                    told = option not in lot and lot in lots
                    self.assertIs(shows_top(poll, option, ("out", lot)), told)
                    self.assertIs(shows_top(poll, option, ("out", lot[::-1])), told)
                    self.assertIs(shows_top(poll, option, ("out", lot + lot[:1])), False)

    def test_a_lot_with_one_more_or_fewer(self):
        self.assertIs(shows_top(RING_AHEAD, "e", ("out", ["a", "b", "c"])), True)
        self.assertIs(shows_top(RING_AHEAD, "e", ("out", ["a", "b", "c", "d"])), True)
        self.assertIs(shows_top(RING_AHEAD, "e", ("out", ["a", "b"])), False)
        self.assertIs(shows_top(RING_AHEAD, "e", ("out", ["a", "b", "c", "f"])), False)
        self.assertIs(shows_top(RING_AHEAD, "e", ("out", ["a", "b", "c", "d", "f"])), False)
        self.assertIs(shows_top(RING_AHEAD, "e", ("out", ["a", "b", "c", "e"])), False)
        self.assertIs(shows_top(RING_AHEAD, "e", ("out", ["a", "b", "c", "a"])), False)
        self.assertIs(shows_top(RING_AHEAD, "d", ("out", ["a", "b", "c", "d"])), False)
        self.assertIs(shows_top(RING_AHEAD, "a", ("out", ["b", "c"])), False)

    def test_ways_with_a_step_that_loses_or_is_even(self):
        self.assertIs(shows_top(RING, "a", ("in", [("a", "b"), ("a", "b", "c")])), True)
        self.assertIs(shows_top(RING, "a", ("in", [("a", "b"), ("a", "c")])), False)
        self.assertIs(shows_top(RING, "a", ("in", [("a", "c", "b"), ("a", "b", "c")])), False)
        self.assertIs(shows_top(RING, "a", ("in", [("a", "b", "c"), ("a", "b")])), False)
        self.assertIs(shows_top(RING, "a", ("in", [("b",), ("a", "b", "c")])), False)
        self.assertIs(shows_top(RING, "a", ("in", [("a",), ("a", "b", "c")])), False)
        self.assertIs(shows_top(NONE, "a", ("in", [("a", "b"), ("a", "b", "c")])), True)
        self.assertIs(shows_top(LINE, "b", ("in", [("b", "c"), ("b", "c", "a")])), False)

    def test_papers_with_one_thing_otherwise(self):
        for poll in ALL[:30]:
            for option in poll.options:
                for paper in spoilt(top_paper(poll, option), poll.options):
                    with self.subTest(poll=poll, option=option, paper=paper):
                        self.assertIs(shows_top(poll, option, paper), is_top_told(poll, option, paper))

    def test_papers_for_another_option(self):
        for poll in ALL[:60]:
            for option, other in permutations(poll.options, 2):
                paper = top_paper(poll, option)
                self.assertIs(shows_top(poll, other, paper), is_top_told(poll, other, paper))

    def test_things_of_any_kind(self):
        for thing in THINGS:
            for poll in (RING, LINE, NONE, ONE):
                for option in poll.options:
                    for paper in (thing, ("in", thing), ("out", thing), (thing, []), ("in", [thing]), ("out", [thing]),
                                  ("in", [thing, thing]), ("in", [(option, thing), (option, thing)])):
                        with self.subTest(poll=poll, option=option, paper=paper):
                            self.assertIs(shows_top(poll, option, paper), is_top_told(poll, option, paper))

    def test_the_paper_stays_as_it_was(self):
        for option in RING_AHEAD.options:
            paper = top_paper(RING_AHEAD, option)
            shown = repr(paper)
            shows_top(RING_AHEAD, option, paper)
            self.assertEqual(repr(paper), shown)

    def test_what_is_none_of_the_options_is_refused(self):
        self.the_option_is_refused(top_paper)
        self.the_option_is_refused(lambda poll, thing: shows_top(poll, thing, None))
        self.the_option_is_refused(lambda poll, thing: shows_top(poll, thing, ("in", [])))


class Covers(Refused):
    def test_by_hand(self):
        self.assertIs(covers(LINE, "a", "b"), True)
        self.assertIs(covers(LINE, "a", "c"), True)
        self.assertIs(covers(poll=LINE, one="c", other="b"), False)
        self.assertIs(covers(RING, "a", "b"), False)
        # a beats b, and c is alike with both: 0 is no less than 0.
        self.assertIs(covers(poll_with("abc", {"ab": 1}), "a", "b"), True)
        # a beats b, but is alike with c, which b beats.
        self.assertIs(covers(poll_with("abc", {"ab": 1, "bc": 1}), "a", "b"), False)
        # a beats b, but loses to c, which is alike with b.
        self.assertIs(covers(poll_with("abc", {"ab": 1, "ca": 1}), "a", "b"), False)
        # a beats b, and both lose to c, whatever the margins.
        self.assertIs(covers(poll_with("abc", {"ab": 1, "ca": 3, "cb": 1}), "a", "b"), True)
        self.assertIs(covers(NONE, "a", "b"), False)

    def test_each_two_options_by_the_words(self):
        for poll in ALL:
            held = margins_told(poll)
            for one, other in product(poll.options, repeat=2):
                told = one != other and covers_told(held, poll.options, one, other)
                self.assertIs(covers(poll, one, other), told)

    def test_the_first_that_is_none_is_refused(self):
        self.first_of_two_is_refused(covers)


class Uncovered(Refused):
    def test_told_ones(self):
        for poll, lot in ((LINE, ["a"]), (RING, ["a", "b", "c"]), (NONE, ["b", "a", "c"]), (ONE, ["a"]),
                          (RING_AHEAD, ["b", "a", "c"]), (poll_with("cba", {"ab": 1}), ["c", "a"]),
                          (poll_with("dabc", {"ab": 1, "bc": 1, "cd": 1, "da": 1, "ac": 1, "bd": 1}), ["d", "a", "b"])):
            with self.subTest(poll=poll):
                self.assertEqual(uncovered_lot(poll), lot)
                self.assertEqual(uncovered_lot(poll=poll), lot)

    def test_many_polls_by_the_words(self):
        for poll in ALL:
            held = margins_told(poll)
            told = [one for one in poll.options if not any(covers_told(held, poll.options, other, one)
                                                           for other in others_in(poll, one))]
            self.assertEqual(uncovered_lot(poll), told)
            self.assertTrue(set(told) <= set(top_lot(poll)))
            for option in poll.options:
                paper = uncovered_paper(poll, option)
                self.assertEqual(paper[0], "in" if option in told else "out")
                self.assertTrue(is_uncovered_told(poll, option, paper))
                self.assertIs(shows_uncovered(poll, option, paper), True)

    def test_by_names_and_of_a_single_option(self):
        self.assertEqual(uncovered_paper(poll=ONE, option="a"), ("in", []))
        self.assertIs(shows_uncovered(poll=ONE, option="a", paper=("in", [])), True)
        self.assertIs(shows_uncovered(ONE, "a", ("out", "a")), False)

    def test_all_reasons_and_all_others(self):
        for poll in (RING, LINE, NONE, *[poll for poll in POLLS if len(poll.options) <= 4][:60]):
            for option in poll.options:
                for other in (*poll.options, "zz"):
                    paper = ("out", other)
                    self.assertIs(shows_uncovered(poll, option, paper), is_uncovered_told(poll, option, paper))
                for reasons in product(poll.options, repeat=len(poll.options) - 1):
                    paper = ("in", list(reasons))
                    self.assertIs(shows_uncovered(poll, option, paper), is_uncovered_told(poll, option, paper))

    def test_a_reason_is_a_third_one_or_this_option(self):
        # b doesn't beat a, but b is no third one beside b and a; c is no reason, nor is d none of the options.
        self.assertIs(shows_uncovered(LINE, "a", ("in", ["a", "a"])), True)
        self.assertIs(shows_uncovered(LINE, "a", ("in", ["a", "b"])), False)
        self.assertIs(shows_uncovered(LINE, "a", ("in", ["c", "a"])), False)
        # b is beaten by a, which covers it.
        self.assertIs(shows_uncovered(LINE, "b", ("in", ["b", "b"])), False)
        self.assertIs(shows_uncovered(LINE, "b", ("in", ["b", "c"])), False)
        self.assertIs(shows_uncovered(LINE, "b", ("out", "a")), True)
        self.assertIs(shows_uncovered(LINE, "b", ("out", "b")), False)
        self.assertIs(shows_uncovered(LINE, "b", ("out", "c")), False)
        # In the ring c beats a, but b, which a beats, beats c.
        self.assertIs(shows_uncovered(RING, "a", ("in", ["a", "b"])), True)
        self.assertIs(shows_uncovered(RING, "a", ("in", ["c", "b"])), False)
        self.assertIs(shows_uncovered(RING, "a", ("in", ["a", "a"])), False)
        self.assertIs(shows_uncovered(RING, "a", ("out", "c")), False)

    def test_told_again_alike_where_the_list_was_emptied(self):
        for poll in (RING, RING_AHEAD, LINE, NONE):
            for option in poll.options:
                told = uncovered_paper(poll, option)
                shown = repr(told)
                if told[0] == "in":
                    told[1].clear()
                self.assertEqual(repr(uncovered_paper(poll, option)), shown)

    def test_papers_with_one_thing_otherwise(self):
        for poll in ALL[:30]:
            for option in poll.options:
                for paper in spoilt(uncovered_paper(poll, option), poll.options):
                    with self.subTest(poll=poll, option=option, paper=paper):
                        self.assertIs(shows_uncovered(poll, option, paper), is_uncovered_told(poll, option, paper))

    def test_things_of_any_kind(self):
        for thing in THINGS:
            for poll in (RING, LINE, NONE, ONE):
                for option in poll.options:
                    for paper in (thing, ("in", thing), ("out", thing), (thing, []), ("in", [thing]),
                                  ("in", [thing, thing]),
                                  ("out", [thing]), (thing, "a"), (thing, thing)):
                        with self.subTest(poll=poll, option=option, paper=paper):
                            told = is_uncovered_told(poll, option, paper)
                            self.assertIs(shows_uncovered(poll, option, paper), told)

    def test_what_is_none_of_the_options_is_refused(self):
        self.the_option_is_refused(uncovered_paper)
        self.the_option_is_refused(lambda poll, thing: shows_uncovered(poll, thing, None))
        self.the_option_is_refused(lambda poll, thing: shows_uncovered(poll, thing, ("in", [])))


class Kept(unittest.TestCase):
    def test_the_poll_stays_as_it_was(self):
        for poll in (RING, RING_AHEAD, LINE, NONE, ONE):
            shown = repr(poll)
            for option in poll.options:
                leader(poll), trailer(poll), top_lot(poll), uncovered_lot(poll)
                shows_top(poll, option, top_paper(poll, option))
                shows_uncovered(poll, option, uncovered_paper(poll, option))
            self.assertEqual(repr(poll), shown)


if __name__ == "__main__":
    unittest.main()
