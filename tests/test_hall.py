"""[13.1], [13.2]: halls."""

import unittest
from random import Random

from tests.samples import THINGS, EqualToAll, any_ballot
from tests.told import NO_RULES, lot_told, rules_for
from voicefold.errors import BadPoll, BadRule, NoOption, PollError
from voicefold.hall import Hall
from voicefold.polls import Poll

ABC = ("c", "a", "b")
ORDER = ("order", (("b",), ("c",), ("a",)))
LETS = ("lets", ("a", "c"))
MARKS = ("marks", (("c", 3), ("b", 9)))
NO_PLACES = (-1, -2, -3, 3, 4, 10 ** 30, True, False, "0", "", None, 0.0, 1.0, [0], (0,), {}, EqualToAll(), b"0", "a")
NO_BALLOTS = (*THINGS, None, (), [], "lets", ("lets",), ("lets", ("d",)), ("lets", ("a", "a")), ("lets", ["a"]),
              ["lets", ("a",)], ("order", ("a",)), ("order", ((),)), ("order", (("a",), ("a",))), ("order", (("d",),)),
              ("marks", (("a", 10),)), ("marks", (("a", -1),)), ("marks", (("a", True),)), ("marks", (("d", 1),)),
              ("votes", ()), EqualToAll(), ("lets", EqualToAll()), (LETS, 1))
NO_MANY = (0, -1, 1000001, 10 ** 30, True, False, "1", "", None, 1.0, [1], (1,), {}, EqualToAll(), b"1")
# No names of options, whatever else is asked.
NO_NAMES = (*THINGS, "d", "ab", "A", "", " a", None, 0, True, ["a"], ("a",), {"a": 1}, EqualToAll(), b"a")


class ByHand:
    """A hall kept in a list of rows and a list of those that stand."""

    def __init__(self, options):
        self.options = options
        self.rows = []
        self.standing = list(options)

    def told(self):
        return (Poll(self.options, tuple(self.rows)).only(tuple(self.standing)),
                [name for name in self.options if name not in self.standing])

    def copied(self):
        found = ByHand(self.options)
        found.rows, found.standing = list(self.rows), list(self.standing)
        return found


def filled():
    """A hall with three rows, and its rows."""
    hall = Hall(ABC)
    rows = [(ORDER, 2), (LETS, 1), (MARKS, 1000000)]
    for ballot, many in rows:
        hall.cast(ballot, many=many)
    return hall, rows


class Case(unittest.TestCase):
    def refused(self, kind, asked, *told, **named):
        with self.assertRaises((PollError, NoOption)) as caught:
            asked(*told, **named)
        self.assertIs(type(caught.exception), kind)
        return caught.exception

    def stands(self, hall, by_hand):
        """The hall tells what was kept by hand."""
        poll, struck = by_hand.told()
        self.assertEqual(hall.struck(), struck)
        self.assertIs(type(hall.struck()), list)
        self.assertIs(type(hall.poll()), Poll)
        self.assertEqual(repr(hall.poll()), repr(poll))


class Made(Case):
    def test_all_stand_and_no_voices_are_there(self):
        for many in range(1, 7):
            options = tuple("fadbce"[:many])
            for hall in (Hall(options), Hall(options=options)):
                self.assertEqual(hall.struck(), [])
                self.assertEqual(hall.poll().options, options)
                self.assertEqual(hall.poll().voices, ())

    def test_what_are_no_options(self):
        for options in (*THINGS, (), [], "ab", ["a", "b"], ("a", "a"), ("a", "B"), ("a", 1), ("a", None), ("",),
                        ("toolongname",), tuple("abcdefg"), {"a": 1}, {"a"}, None, ("a", ["b"]), EqualToAll(),
                        ("a", EqualToAll())):
            with self.subTest(options=options):
                self.refused(BadPoll, Hall, options)

    def test_its_methods_stand_in_the_class_itself(self):
        for name in ("cast", "recall", "strike", "stand", "struck", "poll", "copied", "lot_without"):
            self.assertIn(name, vars(Hall))


class Deeds(Case):
    def test_cast_by_hand(self):
        hall = Hall(ABC)
        self.assertEqual(hall.cast(ORDER), 0)
        self.assertEqual(hall.cast(LETS, many=5), 1)
        self.assertEqual(hall.cast(ballot=MARKS, many=1000000), 2)
        self.assertEqual(hall.cast(ORDER), 3)
        self.assertEqual(hall.poll().voices, ((ORDER, 1), (LETS, 5), (MARKS, 1000000), (ORDER, 1)))
        self.assertIs(type(hall.cast(("order", ()))), int)
        self.assertRaises(TypeError, hall.cast, ORDER, 3)

    def test_recall_at_the_first_a_middle_and_the_last_place(self):
        for at, left in ((0, [1, 2]), (1, [0, 2]), (2, [0, 1])):
            hall, rows = filled()
            self.assertEqual(hall.recall(at), rows[at])
            self.assertEqual(hall.poll().voices, tuple(rows[place] for place in left))
            self.assertEqual(hall.cast(LETS, many=7), 2)
            self.assertEqual(hall.recall(at=2), (LETS, 7))
        hall, rows = filled()
        for row in rows:
            self.assertEqual(hall.recall(0), row)
        self.assertEqual(hall.poll().voices, ())
        for at in (0, -1, 1):
            self.refused(BadPoll, hall.recall, at)

    def test_strike_and_stand_there_and_back(self):
        hall, rows = filled()
        self.assertIsNone(hall.strike("a"))
        self.assertEqual(hall.struck(), ["a"])
        self.assertEqual(hall.poll().options, ("c", "b"))
        self.assertEqual(hall.poll().voices, ((("order", (("b",), ("c",))), 2), (("lets", ("c",)), 1), rows[2]))
        self.assertIsNone(hall.strike(name="c"))
        self.assertEqual(hall.struck(), ["c", "a"])
        self.assertEqual(hall.poll().options, ("b",))
        self.refused(BadPoll, hall.strike, "b")
        self.assertIsNone(hall.stand("a"))
        self.assertEqual(hall.struck(), ["c"])
        self.assertEqual(hall.poll().options, ("a", "b"))
        self.assertIsNone(hall.stand(name="c"))
        self.assertEqual(hall.struck(), [])
        self.assertEqual(hall.poll().voices, tuple(rows))

    def test_struck_options_are_kept_in_rows(self):
        hall = Hall(ABC)
        hall.strike("a")
        self.assertEqual(hall.cast(("lets", ("a",)), many=3), 0)
        self.assertEqual(hall.cast(("order", (("a",), ("b", "c"))), many=2), 1)
        self.assertEqual(hall.cast(("marks", (("a", 9), ("c", 1)))), 2)
        self.assertEqual(hall.poll().voices,
                         ((("lets", ()), 3), (("order", (("b", "c"),)), 2), (("marks", (("c", 1),)), 1)))
        self.assertEqual(hall.recall(0), (("lets", ("a",)), 3))
        hall.stand("a")
        self.assertEqual(hall.poll().voices,
                         ((("order", (("a",), ("b", "c"))), 2), (("marks", (("a", 9), ("c", 1))), 1)))

    def test_many_deeds_against_keeping_them_by_hand(self):
        chance = Random(131)
        for _ in range(60):
            options = tuple(chance.sample("abcdef", chance.randint(1, 6)))
            halls = [(Hall(options), ByHand(options))]
            for _ in range(40):
                hall, by_hand = chance.choice(halls)
                self.deed(chance, hall, by_hand)
                if chance.random() < 0.06:
                    halls.append((hall.copied(), by_hand.copied()))
                for both in halls:
                    self.stands(*both)

    def deed(self, chance, hall, by_hand):
        word = chance.choice(("cast", "cast", "cast", "recall", "strike", "strike", "stand", "without"))
        name = chance.choice((*by_hand.options, "zz")) if chance.random() < 0.2 else chance.choice(by_hand.options)
        if word == "cast":
            row = (any_ballot(chance, by_hand.options), chance.randint(1, 9))
            if len(by_hand.rows) < 30:
                self.assertEqual(hall.cast(row[0], many=row[1]), len(by_hand.rows))
                by_hand.rows.append(row)
        elif word == "recall":
            at = chance.randint(-1, len(by_hand.rows))
            if 0 <= at < len(by_hand.rows):
                self.assertEqual(hall.recall(at), by_hand.rows.pop(at))
            else:
                self.refused(BadPoll, hall.recall, at)
        elif name == "zz":
            self.refused(NoOption, hall.strike if word == "strike" else hall.stand, name)
        elif word == "strike":
            if name in by_hand.standing and len(by_hand.standing) > 1:
                hall.strike(name)
                by_hand.standing.remove(name)
            else:
                self.refused(BadPoll, hall.strike, name)
        elif word == "stand":
            if name not in by_hand.standing:
                hall.stand(name)
                by_hand.standing = [one for one in by_hand.options if one in by_hand.standing or one == name]
            else:
                self.refused(BadPoll, hall.stand, name)
        elif name in by_hand.standing and len(by_hand.standing) > 1:
            left = tuple(one for one in by_hand.standing if one != name)
            told = lot_told(Poll(by_hand.options, tuple(by_hand.rows)).only(left), "points")
            self.assertEqual(hall.lot_without("points", [name]), told)
        else:
            self.refused(BadPoll, hall.lot_without, "points", [name])

    def test_the_told_is_the_askers_own(self):
        hall, _ = filled()
        hall.strike("b")
        hall.strike("c")
        first = hall.struck()
        first.reverse()
        first.clear()
        self.assertEqual(hall.struck(), ["c", "b"])
        hall.stand("b")
        told = hall.lot_without("top", [])
        told.clear()
        self.assertEqual(hall.lot_without("top", []), lot_told(hall.poll(), "top"))

    def test_a_poll_that_was_told_stays(self):
        hall, rows = filled()
        told = hall.poll()
        hall.recall(1)
        hall.strike("a")
        hall.cast(LETS)
        self.assertEqual(told.voices, tuple(rows))
        self.assertEqual(told.options, ABC)

    def test_copied_both_go_on_by_themselves(self):
        hall, rows = filled()
        hall.strike("a")
        other = hall.copied()
        self.assertIs(type(other), Hall)
        self.assertEqual((other.struck(), repr(other.poll())), (["a"], repr(hall.poll())))
        other.stand("a")
        other.strike("b")
        other.recall(0)
        self.assertEqual(hall.struck(), ["a"])
        self.assertEqual(len(hall.poll().voices), 3)
        hall.cast(LETS)
        hall.strike("c")
        self.assertEqual(other.struck(), ["b"])
        self.assertEqual(len(other.poll().voices), 2)
        self.assertEqual(other.recall(1), rows[2])
        self.assertEqual(hall.recall(0), rows[0])


class Refused(Case):
    def test_cast(self):
        hall, rows = filled()
        hall.strike("a")
        shown = repr(hall.poll())
        for ballot in NO_BALLOTS:
            for many in (1, 0, None):
                with self.subTest(ballot=ballot):
                    self.refused(BadPoll, hall.cast, ballot, many=many)
        for many in NO_MANY:
            with self.subTest(many=many):
                self.refused(BadPoll, hall.cast, LETS, many=many)
        self.assertEqual((repr(hall.poll()), hall.struck()), (shown, ["a"]))
        self.assertEqual(hall.cast(LETS), 3)

    def test_thirty_rows_and_one_more(self):
        hall = Hall(ABC)
        for at in range(30):
            self.assertEqual(hall.cast(LETS, many=at + 1), at)
        for ballot, many in ((LETS, 1), (ORDER, 5), (None, 1), (LETS, 0)):
            self.refused(BadPoll, hall.cast, ballot, many=many)
            self.assertEqual(len(hall.poll().voices), 30)
        self.assertEqual(hall.recall(7), (LETS, 8))
        self.assertEqual(hall.cast(ORDER), 29)
        self.refused(BadPoll, hall.cast, LETS)
        self.assertEqual(hall.poll().voices[7:9] + hall.poll().voices[28:],
                         ((LETS, 9), (LETS, 10), (LETS, 30), (ORDER, 1)))

    def test_recall(self):
        hall, rows = filled()
        for at in (*NO_PLACES, *[thing for thing in THINGS if thing not in (0, 1)]):
            with self.subTest(at=at):
                self.refused(BadPoll, hall.recall, at)
                self.assertEqual(hall.poll().voices, tuple(rows))
        empty = Hall(ABC)
        for at in (*NO_PLACES, 0, 1):
            self.refused(BadPoll, empty.recall, at)

    def test_strike_and_stand_of_no_options(self):
        last = Hall(("a",))
        others = filled()[0]
        others.strike("c")
        others.strike("b")
        for name in NO_NAMES:
            for hall in (filled()[0], last, others):
                shown = (repr(hall.poll()), hall.struck())
                with self.subTest(name=name):
                    for asked in (hall.strike, hall.stand):
                        self.assertIs(self.refused(NoOption, asked, name).name, name)
                    self.assertEqual((repr(hall.poll()), hall.struck()), shown)

    def test_strike_of_what_does_not_stand_and_of_the_last_one(self):
        hall = Hall(ABC)
        hall.strike("a")
        for _ in range(2):
            self.refused(BadPoll, hall.strike, "a")
            self.assertEqual(hall.struck(), ["a"])
        hall.strike("b")
        for name in ABC:
            self.refused(BadPoll, hall.strike, name)
            self.assertEqual(hall.struck(), ["a", "b"])
        self.refused(BadPoll, Hall(("a",)).strike, "a")

    def test_stand_of_what_stands(self):
        hall = Hall(ABC)
        for name in ABC:
            self.refused(BadPoll, hall.stand, name)
        hall.strike("a")
        for name in ("c", "b"):
            self.refused(BadPoll, hall.stand, name)
        self.assertEqual(hall.struck(), ["a"])
        hall.stand("a")
        self.refused(BadPoll, hall.stand, "a")
        self.assertEqual(hall.struck(), [])


def great_hall():
    """A hall of four options, one of them struck, with rows of all forms."""
    hall = Hall(("d", "c", "a", "b"))
    for ballot, many in ((("order", (("b",), ("c",), ("d",))), 4), (("lets", ("a", "d")), 3),
                         (("marks", (("c", 7), ("a", 7), ("b", 1))), 2), (("order", (("d",), ("a", "c"))), 3)):
        hall.cast(ballot, many=many)
    hall.strike("d")
    return hall


class LotWithout(Case):
    def kept(self, hall, names, asked):
        """What is told or refused, with a look at the hall and the list behind it."""
        shown = (repr(hall.poll()), hall.struck(), list(names))
        try:
            return asked(names)
        finally:
            self.assertEqual((repr(hall.poll()), hall.struck(), names), shown)

    def test_none_one_and_several(self):
        hall = great_hall()
        whole = great_hall()
        whole.stand("d")
        for names, left in (([], "cab"), (["c"], "ab"), (["a"], "cb"), (["b"], "ca"), (["a", "b"], "c"),
                            (["b", "a"], "c"),
                            (["c", "b"], "a")):
            for rule in rules_for(left):
                rows = Poll(whole.poll().options, whole.poll().voices)
                told = lot_told(rows.only(tuple(left)), rule)
                self.assertEqual(self.kept(hall, names, lambda asked: hall.lot_without(rule, asked)), told)
                self.assertEqual(hall.lot_without(rule=rule, names=names), told)
                self.assertIs(type(hall.lot_without(rule, names)), list)

    def test_weights_are_for_as_many_as_stand_then(self):
        hall = great_hall()
        for names in ([], ["a"], ["a", "c"]):
            for many in range(6):
                rule = ("weights", (5, 4, 3, 2, 1, 0)[:many])
                if many == 3 - len(names):
                    self.assertEqual(type(self.kept(hall, names, lambda asked: hall.lot_without(rule, asked))), list)
                else:
                    self.kept(hall, names, lambda asked: self.refused(BadRule, hall.lot_without, rule, asked))

    def test_no_rule(self):
        hall = great_hall()
        for rule in (*NO_RULES, *THINGS):
            for names in ([], ["a"], ["b", "a"]):
                self.kept(hall, names, lambda asked: self.refused(BadRule, hall.lot_without, rule, asked))

    def test_names_are_looked_at_ahead_of_the_rule_one_by_one(self):
        hall = great_hall()
        for rule in ("points", None, ("weights", (1,)), EqualToAll()):
            for names, name in ((["zz"], "zz"), (["a", "zz"], "zz"), (["zz", "d"], "zz"), (["zz", "yy"], "zz"),
                                (["a", "yy", "zz", "a"], "yy"), (["a", "b", ""], ""), (["A"], "A")):
                refusal = self.kept(hall, names, lambda asked: self.refused(NoOption, hall.lot_without, rule, asked))
                self.assertEqual(refusal.name, name)
            for names in (["d"], ["a", "d"], ["d", "zz"], ["a", "a"], ["a", "b", "a"], ["a", "a", "zz"],
                          ["a", "b", "c"],
                          ["c", "b", "a"], ["a", "b", "c", "zz"], ["a", "d", "b", "c"], ["d", "c", "a", "b"]):
                self.kept(hall, names, lambda asked: self.refused(BadPoll, hall.lot_without, rule, asked))
            for name in (None, 1, True, ["a"], ("a",), {}, EqualToAll(), b"a"):
                for names in ([name], ["a", name]):
                    refusal = self.refused(NoOption, hall.lot_without, rule, names)
                    self.assertIs(refusal.name, name)
                    self.assertEqual(hall.struck(), ["d"])

    def test_the_last_one_that_stands(self):
        hall = Hall(("a",))
        self.assertEqual(hall.lot_without("top", []), ["a"])
        self.refused(BadPoll, hall.lot_without, "top", ["a"])
        self.assertEqual(hall.struck(), [])

    def test_what_is_no_list_is_refused(self):
        hall = great_hall()
        for names in (None, 3, ("a",), "a", (), {"a": 1}, {"a"}):
            with self.assertRaises(Exception):
                hall.lot_without("points", names)
            self.assertEqual(hall.struck(), ["d"])

    def test_a_list_that_was_changed(self):
        hall = great_hall()
        names = ["a"]
        first = hall.lot_without("top", names)
        names[0] = "b"
        self.assertNotIn("b", hall.lot_without("top", names))
        names.append("c")
        self.assertEqual(hall.lot_without("top", names), ["a"])
        names[:] = ["a"]
        self.assertEqual(hall.lot_without("top", names), first)


if __name__ == "__main__":
    unittest.main()
