"""The interface: where each name is defined, and what it is asked by."""

import unittest
from importlib import import_module
from inspect import signature

TOLD = {
    "words": ("is_whole(thing)", "is_name(thing)"),
    "shares": ("Share(num, over=1)", "shares_sum(shares)"),
    "sums": ("check_sums(sums)", "met_by(sums, *, many=0)", "unmet(sums, *, many=0)",
             "shows_met(sums, paper, *, many=0)", "shows_unmet(sums, paper, *, many=0)"),
    "ballots": ("check_ballot(options, ballot)", "tiers(options, ballot)", "ahead(options, ballot, one, other)"),
    "polls": ("Poll(options, voices=())",),
    "counts": ("margin(poll, one, other)", "margins(poll)", "firsts(poll)", "lasts(poll)", "lets(poll)", "points(poll)",
               "weighed(poll, weights)"),
    "majorities": ("beats(poll, one, other)", "covers(poll, one, other)", "leader(poll)", "trailer(poll)",
                   "top_lot(poll)", "uncovered_lot(poll)", "top_paper(poll, option)", "uncovered_paper(poll, option)",
                   "shows_top(poll, option, paper)", "shows_uncovered(poll, option, paper)"),
    "ways": ("strength(poll, one, other)", "strength_paper(poll, one, other)",
             "shows_strength(poll, one, other, number, paper)", "pairs_order(poll, *, ties=())",
             "shows_stands(poll, order)"),
    "best": ("cost(poll, order)", "best_cost(poll)", "best_orders(poll)", "bound(poll, rings)", "best_paper(poll)",
             "shows_best(poll, number, paper)"),
}


class Interface(unittest.TestCase):
    def test_each_name_is_defined_in_its_file_and_asked_as_told(self):
        for file, asked in TOLD.items():
            module = import_module(f"voicefold.{file}")
            for told in asked:
                with self.subTest(told=told):
                    name = told.partition("(")[0]
                    found = getattr(module, name)
                    self.assertEqual(found.__module__, module.__name__)
                    self.assertEqual(f"{name}{signature(found)}", told)


if __name__ == "__main__":
    unittest.main()
