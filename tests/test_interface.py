"""The interface: where each name is defined, and what it is asked by."""

import unittest
from importlib import import_module
from inspect import signature

TOLD = {
    "words": ("is_whole(thing)", "is_name(thing)"),
    "shares": ("Share(num, over=1)", "shares_sum(shares)"),
    "sums": ("check_sums(sums)", "met_by(sums, *, many=0)", "unmet(sums, *, many=0)",
             "shows_met(sums, paper, *, many=0)", "shows_unmet(sums, paper, *, many=0)"),
    "ballots": ("check_ballot(options, ballot)", "tiers(options, ballot)", "ahead(options, ballot, one, other)"),
    "polls": ("Poll(options, voices=())",),
    "counts": ("margin(poll, one, other)", "margins(poll)", "firsts(poll)", "lasts(poll)", "lets(poll)", "points(poll)",
               "weighed(poll, weights)"),
    "majorities": ("beats(poll, one, other)", "covers(poll, one, other)", "leader(poll)", "trailer(poll)",
                   "top_lot(poll)", "uncovered_lot(poll)", "top_paper(poll, option)", "uncovered_paper(poll, option)",
                   "shows_top(poll, option, paper)", "shows_uncovered(poll, option, paper)"),
    "ways": ("strength(poll, one, other)", "strength_paper(poll, one, other)",
             "shows_strength(poll, one, other, number, paper)", "pairs_order(poll, *, ties=())",
             "shows_stands(poll, order)"),
    "best": ("cost(poll, order)", "best_cost(poll)", "best_orders(poll)", "bound(poll, rings)", "best_paper(poll)",
             "shows_best(poll, number, paper)"),
    "rules": ("lot(poll, rule)", "end(poll, rule, *, ties=())"),
    "rounds": ("tally(poll, left)", "rounds(poll, *, ties=())", "round_ends(poll)"),
    "claims": ("lead(poll, claim)", "claims_show(options, end, claims)", "claims_for(poll)", "slack(poll, claims)"),
    "lotteries": ("lottery(poll)", "shows_lottery(poll, paper)"),
    "lies": ("changed(poll, at, order, *, many=1)", "lie(poll, rule, *, ties=(), many=1)",
             "ends_of(poll, rule, at, *, ties=(), many=1)", "shows_lie(poll, rule, paper, *, ties=(), many=1)"),
    "promises": ("breaks(rule, promise, case)", "least_break(rule, promise, *, voices=3)"),
    "ofmargins": ("poll_of(options, margins)",),
    "hall": ("Hall(options)",),
}
# The methods that the interface lists, by file and class.
METHODS = {
    ("shares", "Share"): ("plus(self, other)", "less(self, other)", "times(self, other)", "by(self, other)",
                          "below(self, other)", "__eq__(self, other)", "__repr__(self)", "__str__(self)"),
    ("polls", "Poll"): ("many(self)", "joined(self, other)", "only(self, names)", "__eq__(self, other)",
                        "__repr__(self)"),
    ("hall", "Hall"): ("cast(self, ballot, *, many=1)", "recall(self, at)", "strike(self, name)", "stand(self, name)",
                       "struck(self)", "poll(self)", "copied(self)", "lot_without(self, rule, names)"),
}


class Interface(unittest.TestCase):
    def test_each_name_is_defined_in_its_file_and_asked_as_told(self):
        for file, asked in TOLD.items():
            module = import_module(f"voicefold.{file}")
            for told in asked:
                with self.subTest(told=told):
                    name = told.partition("(")[0]
                    found = getattr(module, name)
                    self.assertEqual(found.__module__, module.__name__)
                    self.assertEqual(f"{name}{signature(found)}", told)

    def test_each_method_is_defined_in_its_class_and_asked_as_told(self):
        for (file, kind), asked in METHODS.items():
            own = vars(getattr(import_module(f"voicefold.{file}"), kind))
            for told in asked:
                with self.subTest(told=told):
                    name = told.partition("(")[0]
                    self.assertIn(name, own)
                    self.assertEqual(f"{name}{signature(own[name])}", told)


if __name__ == "__main__":
    unittest.main()
