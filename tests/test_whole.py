"""[2], [4]: what holds over all of the program."""

import unittest
from itertools import permutations
from random import Random

from tests.samples import THINGS, EqualToAll, many_polls, poll_of, poll_with
from tests.told import rules_for, tiers_told
from voicefold import ofmargins
from voicefold.best import best_cost, best_orders, best_paper, bound, shows_best
from voicefold.claims import claims_for, claims_show, slack
from voicefold.counts import firsts, lasts, lets, margins, points, weighed
from voicefold.errors import (BadBallot, BadClaim, BadMargins, BadOrder, BadPoll, BadRule, BadSums, NoOption, NoShare,
                              PollError)
from voicefold.ballots import ahead, check_ballot
from voicefold.hall import Hall
from voicefold.lies import changed, ends_of, lie, shows_lie
from voicefold.lotteries import lottery, shows_lottery
from voicefold.majorities import (beats, covers, shows_top, shows_uncovered, top_lot, top_paper, uncovered_lot,
                                  uncovered_paper)
from voicefold.counts import margin
from voicefold.polls import Poll
from voicefold.promises import breaks, least_break
from voicefold.rounds import round_ends, rounds, tally
from voicefold.rules import end, lot
from voicefold.shares import Share, shares_sum
from voicefold.sums import check_sums, met_by, shows_met, shows_unmet, unmet
from voicefold.ways import (pairs_order, shows_stands, shows_strength, strength, strength_paper)

POLLS = many_polls(201, 4, 30, least=2)
RING = poll_with("abc", {"ab": 1, "bc": 2, "ca": 3})
CLEAR = poll_of("cab", "abc 5", "bca 4", "cba 2")


def hall_of(poll):
    """A hall of the poll's options and rows."""
    hall = Hall(poll.options)
    for ballot, many in poll.voices:
        hall.cast(ballot, many=many)
    return hall


def struck_of(poll):
    hall = hall_of(poll)
    for name in poll.options[1:]:
        hall.strike(name)
    return hall.struck()


# All that tell a list or a dict, or a tuple with a list in it, or None.
TELLING = {
    "margins": margins, "firsts": firsts, "lasts": lasts, "lets": lets, "points": points,
    "weighed": lambda poll: weighed(poll, tuple(range(len(poll.options), 0, -1))),
    "lots": lambda poll: [lot(poll, rule) for rule in rules_for(poll.options)],
    "top_lot": top_lot, "uncovered_lot": uncovered_lot, "best_orders": best_orders, "best_paper": best_paper,
    "top_paper": lambda poll: top_paper(poll, poll.options[0]),
    "uncovered_paper": lambda poll: uncovered_paper(poll, poll.options[0]),
    "strength_paper": lambda poll: strength_paper(poll, poll.options[0], poll.options[-1]),
    "tally": lambda poll: tally(poll, list(poll.options)), "rounds": rounds, "round_ends": round_ends,
    "claims_for": claims_for, "lottery": lottery,
    "ends_of": lambda poll: ends_of(poll, "points", 0) if poll.voices else [],
    "struck": struck_of,
    "lot_without": lambda poll: hall_of(poll).lot_without("points", [poll.options[0]]),
}


def spoil(thing):
    """Turns about and empties each list and dict in a thing."""
    if isinstance(thing, (tuple, list)):
        for part in thing:
            spoil(part)
    if isinstance(thing, list):
        thing.reverse()
        thing.clear()
        thing.append("spoilt")
    elif isinstance(thing, dict):
        for part in thing.values():
            spoil(part)
        thing.clear()
        thing["spoilt"] = True


class Told(unittest.TestCase):
    def test_what_the_asker_does_to_it_changes_no_later_answer(self):
        for poll in (RING, CLEAR, *POLLS):
            for name, asked in TELLING.items():
                with self.subTest(name=name):
                    first = asked(poll)
                    shown = repr(first)
                    spoil(first)
                    self.assertEqual(repr(asked(poll)), shown)
                    # What else hangs on the poll is told as before, too.
                    self.assertEqual(repr(asked(Poll(poll.options, poll.voices))), shown)

    def test_a_halls_answers_are_the_askers_own(self):
        for poll in POLLS:
            hall = hall_of(poll)
            hall.strike(poll.options[0])
            shown = repr((hall.struck(), hall.poll(), hall.lot_without("points", [])))
            for told in (hall.struck(), hall.lot_without("points", [])):
                spoil(told)
            self.assertEqual(repr((hall.struck(), hall.poll(), hall.lot_without("points", []))), shown)

    def test_told_again_alike_with_other_questions_between(self):
        for poll in POLLS:
            shown = {name: repr(asked(poll)) for name, asked in TELLING.items()}
            for name, asked in reversed(list(TELLING.items())):
                self.assertEqual(repr(asked(poll)), shown[name])
            for rule in rules_for(poll.options):
                self.assertEqual(end(poll, rule), end(poll, rule))
                self.assertEqual(lie(poll, rule), lie(poll, rule))

    def test_the_poll_stays(self):
        for poll in POLLS:
            shown = repr(poll)
            for asked in TELLING.values():
                spoil(asked(poll))
            pairs_order(poll)
            hall_of(poll)
            self.assertEqual(repr(poll), shown)


class HandedIn(unittest.TestCase):
    """What was changed where it stands, and is handed in again, is looked at as it stands by then."""

    def test_shares_and_sums(self):
        shares = [Share(1, 2)]
        self.assertEqual(shares_sum(shares), Share(1, 2))
        shares.append(Share(1, 3))
        self.assertEqual(shares_sum(shares), Share(5, 6))
        one = Share(1)
        sums = [((one,), one)]
        self.assertIsNone(check_sums(sums))
        paper = met_by(sums)
        self.assertIsNone(unmet(sums))
        self.assertIs(shows_met(sums, paper), True)
        sums.append(((Share(-1),), one))
        self.assertIsNone(met_by(sums))
        other = unmet(sums)
        self.assertIs(shows_unmet(sums, other), True)
        self.assertIs(shows_met(sums, paper), False)
        sums.pop()
        self.assertIs(shows_unmet(sums, other), False)
        self.assertIs(shows_met(sums, paper), True)
        self.assertIsNotNone(met_by(sums))
        sums.append(None)
        for asked in (check_sums, met_by, unmet):
            self.assertRaises(BadSums, asked, sums)

    def test_papers(self):
        ways = top_paper(RING, "a")
        self.assertIs(shows_top(RING, "a", ways), True)
        ways[1].reverse()
        self.assertIs(shows_top(RING, "a", ways), False)
        ways[1].reverse()
        self.assertIs(shows_top(RING, "a", ways), True)
        reasons = uncovered_paper(RING, "a")
        self.assertIs(shows_uncovered(RING, "a", reasons), True)
        last = reasons[1].pop()
        self.assertIs(shows_uncovered(RING, "a", reasons), False)
        reasons[1].append(last)
        self.assertIs(shows_uncovered(RING, "a", reasons), True)
        strong = strength_paper(RING, "a", "b")
        number = strength(RING, "a", "b")
        self.assertIs(shows_strength(RING, "a", "b", number, strong), True)
        strong[1].append("b")
        self.assertIs(shows_strength(RING, "a", "b", number, strong), False)
        strong[1].remove("b")
        self.assertIs(shows_strength(RING, "a", "b", number, strong), True)

    def test_rings(self):
        rings = best_paper(RING)
        self.assertIs(shows_best(RING, best_cost(RING), rings), True)
        self.assertEqual(bound(RING, rings), Share(best_cost(RING)))
        kept = list(rings)
        rings.clear()
        self.assertIs(shows_best(RING, best_cost(RING), rings), False)
        self.assertEqual(bound(RING, rings), Share(0))
        rings.extend(kept)
        self.assertIs(shows_best(RING, best_cost(RING), rings), True)
        rings.append(None)
        self.assertRaises(BadOrder, bound, RING, rings)

    def test_claims_names_lotteries_and_margins(self):
        claims = claims_for(CLEAR)
        self.assertIs(claims_show(CLEAR.options, "b", claims), True)
        kept = claims.pop()
        self.assertIs(claims_show(CLEAR.options, "b", claims), False)
        claims.append(kept)
        self.assertIs(claims_show(CLEAR.options, "b", claims), True)
        held = slack(CLEAR, claims)
        claims.append(("before", "c", "a"))
        self.assertEqual((held, slack(CLEAR, claims)), (0, -1))
        paper = lottery(RING)
        paper["a"] = paper["a"].plus(Share(1))
        self.assertIs(shows_lottery(RING, paper), False)
        paper["a"] = paper["a"].less(Share(1))
        self.assertIs(shows_lottery(RING, paper), True)
        held = margins(RING)
        found = ofmargins.poll_of(RING.options, held)
        held["a", "b"], held["b", "a"] = 10, -10
        self.assertEqual(margins(found), margins(RING))
        self.assertEqual(margins(ofmargins.poll_of(RING.options, held)), held)
        left = ["a", "b"]
        self.assertEqual(list(tally(RING, left)), ["a", "b"])
        left.pop()
        self.assertEqual(list(tally(RING, left)), ["a"])
        self.assertEqual(left, ["a"])

    def test_what_is_handed_in_stays(self):
        for poll in POLLS:
            first, last = poll.options[0], poll.options[-1]
            handed = [top_paper(poll, first), uncovered_paper(poll, first), strength_paper(poll, first, last),
                      best_paper(poll), claims_for(poll) or [], lottery(poll), list(poll.options)[::-1],
                      ofmargins.poll_of(("a", "b"), {("b", "a"): 2, ("a", "b"): -2})]
            shown = repr(handed)
            ways, reasons, strong, rings, claims, paper, left, _ = handed
            shows_top(poll, first, ways)
            shows_uncovered(poll, first, reasons)
            shows_strength(poll, first, last, strength(poll, first, last), strong)
            shows_best(poll, 0, rings)
            bound(poll, rings)
            claims_show(poll.options, first, claims)
            slack(poll, claims)
            shows_lottery(poll, paper)
            tally(poll, left)
            self.assertEqual(repr(handed), shown)


class Things(unittest.TestCase):
    def test_what_shows_is_asked_of_may_be_anything_at_all(self):
        for poll in (RING, CLEAR, Poll(("a",)), Poll(("b", "a"))):
            one, other = poll.options[0], poll.options[-1]
            asked = [
                lambda thing: shows_met([((Share(1),), Share(1))], thing), lambda thing: shows_met([], thing, many=2),
                lambda thing: shows_unmet([((Share(1),), Share(1))], thing),
                lambda thing: shows_top(poll, one, thing), lambda thing: shows_uncovered(poll, one, thing),
                lambda thing: shows_strength(poll, one, other, 0, thing),
                lambda thing: shows_strength(poll, one, other, thing, thing), lambda thing: shows_stands(poll, thing),
                lambda thing: shows_best(poll, 0, thing), lambda thing: shows_best(poll, thing, thing),
                lambda thing: shows_lottery(poll, thing), lambda thing: shows_lie(poll, "points", thing),
            ]
            for number, ask in enumerate(asked):
                for thing in (*THINGS, EqualToAll(), [EqualToAll()], {"a": EqualToAll()}, (EqualToAll(),) * 2):
                    with self.subTest(number=number, thing=thing):
                        self.assertIs(ask(thing), False)


class Refusals(unittest.TestCase):
    def test_that_of_what_is_handed_in_first(self):
        bad = EqualToAll()
        for kind, asked in (
                (NoOption, lambda: ahead(("a", "b"), ("lets", ()), bad, bad)),
                (NoOption, lambda: margin(RING, bad, bad)),
                (NoOption, lambda: beats(RING, bad, bad)), (NoOption, lambda: covers(RING, bad, bad)),
                (NoOption, lambda: shows_top(RING, bad, bad)), (NoOption, lambda: shows_uncovered(RING, bad, bad)),
                (NoOption, lambda: strength(RING, bad, bad)),
                (NoOption, lambda: shows_strength(RING, bad, bad, bad, bad)),
                (BadPoll, lambda: Poll(bad, bad)), (BadBallot, lambda: check_ballot(("a",), bad)),
                (BadSums, lambda: shows_met(bad, bad)), (BadSums, lambda: shows_unmet(bad, bad)),
                (BadRule, lambda: weighed(RING, bad)), (BadRule, lambda: lot(RING, bad)),
                (BadRule, lambda: end(RING, bad, ties=bad)), (BadOrder, lambda: end(RING, "top", ties=bad)),
                (BadOrder, lambda: tally(RING, bad)), (BadOrder, lambda: rounds(RING, ties=bad)),
                (BadOrder, lambda: pairs_order(RING, ties=bad)), (BadClaim, lambda: slack(RING, bad)),
                (BadPoll, lambda: claims_show(bad, bad, bad)), (NoOption, lambda: claims_show(("a",), bad, bad)),
                (BadClaim, lambda: claims_show(("a",), "a", bad)), (BadPoll, lambda: changed(RING, bad, bad, many=bad)),
                (BadOrder, lambda: changed(RING, 0, bad, many=bad)),
                (BadPoll, lambda: changed(RING, 0, ("a", "b", "c"), many=bad)),
                (BadRule, lambda: lie(RING, bad, ties=bad, many=bad)),
                (BadOrder, lambda: lie(RING, "top", ties=bad, many=bad)),
                (BadPoll, lambda: lie(RING, "top", many=bad)),
                (BadRule, lambda: ends_of(RING, bad, bad, ties=bad, many=bad)),
                (BadPoll, lambda: ends_of(RING, "top", bad, ties=bad, many=bad)),
                (BadOrder, lambda: ends_of(RING, "top", 0, ties=bad, many=bad)),
                (BadPoll, lambda: ends_of(RING, "top", 0, many=bad)),
                (BadRule, lambda: shows_lie(RING, bad, bad, ties=bad, many=bad)),
                (BadOrder, lambda: shows_lie(RING, "top", bad, ties=bad, many=bad)),
                (BadPoll, lambda: shows_lie(RING, "top", bad, many=bad)), (BadRule, lambda: breaks(bad, bad, bad)),
                (BadRule, lambda: least_break(bad, bad, voices=bad)), (BadPoll, lambda: ofmargins.poll_of(bad, bad)),
                (BadMargins, lambda: ofmargins.poll_of(("a",), bad)), (BadPoll, lambda: Hall(bad)),
                (BadPoll, lambda: hall_of(CLEAR).cast(bad, many=bad)), (BadPoll, lambda: hall_of(CLEAR).recall(bad)),
                (NoOption, lambda: hall_of(CLEAR).strike(bad)), (NoOption, lambda: hall_of(CLEAR).stand(bad)),
                (NoOption, lambda: hall_of(CLEAR).lot_without(bad, [bad])),
                (BadRule, lambda: hall_of(CLEAR).lot_without(bad, [])), (NoShare, lambda: Share(1, 0))):
            with self.assertRaises((PollError, NoOption)) as caught:
                asked()
            self.assertIs(type(caught.exception), kind)


class Counted(unittest.TestCase):
    def test_told_at_once_or_joined_from_districts_whatever_the_forms(self):
        chance = Random(202)
        for poll in POLLS:
            rows = [(ballot, 1) for ballot, many in poll.voices for _ in range(min(many, 3))][:30]
            whole = Poll(poll.options, tuple(rows))
            chance.shuffle(rows)
            at = chance.randint(0, len(rows))
            joined = Poll(poll.options, tuple(rows[:at])).joined(Poll(poll.options, tuple(rows[at:])))
            tiered = Poll(poll.options,
                          tuple((("order", tiers_told(poll.options, ballot)), many) for ballot, many in rows))
            self.assertEqual(joined, whole)
            self.assertEqual(tiered, whole)
            for rule in rules_for(poll.options):
                self.assertEqual(lot(joined, rule), lot(whole, rule))
                if rule != "lets":
                    self.assertEqual(lot(tiered, rule), lot(whole, rule))

    def test_uncovered_ones_are_in_the_top_lot(self):
        for poll in POLLS:
            self.assertLessEqual(set(uncovered_lot(poll)), set(top_lot(poll)))


class Joined(unittest.TestCase):
    def test_orders_that_are_best_in_two_polls_are_just_the_best_ones_of_both(self):
        common = 0
        for poll in POLLS:
            for other in POLLS:
                if sorted(poll.options) == sorted(other.options):
                    other = Poll(poll.options, other.voices)
                    if len(poll.voices + other.voices) > 30:
                        continue
                    both = [order for order in best_orders(poll) if order in best_orders(other)]
                    if both:
                        common += 1
                        self.assertEqual(best_orders(poll.joined(other)), both)
        self.assertGreater(common, 30)

    def test_a_lot_that_beats_all_others_is_as_if_they_were_not_there(self):
        less = 0
        for poll in many_polls(203, 5, 60, least=3):
            found = tuple(top_lot(poll))
            less += len(found) < len(poll.options)
            alone = poll.only(found)
            for rule in ("wins", "ways", "best", "top", "uncovered"):
                self.assertEqual(lot(poll, rule), lot(alone, rule))
            fronts = []
            for order in best_orders(poll):
                if order[:len(found)] not in fronts:
                    fronts.append(order[:len(found)])
            self.assertEqual(fronts, best_orders(alone))
            self.assertEqual(pairs_order(poll)[:len(found)], pairs_order(alone))
        self.assertGreater(less, 10)


class Orders(unittest.TestCase):
    def test_texts_and_dicts_have_the_orders_told(self):
        for options in permutations(("ab", "b", "a")):
            poll = Poll(options, ((("lets", ("a",)), 2),))
            for told in (firsts(poll), lasts(poll), lets(poll), points(poll), tally(poll, ["a", "ab", "b"]),
                         lottery(poll)):
                self.assertEqual(list(told), list(options))


if __name__ == "__main__":
    unittest.main()
