"""What several tests ask of: things of any kind, and polls of many kinds."""

from itertools import combinations, product
from random import Random

from voicefold.polls import Poll
from voicefold.shares import Share


class EqualToAll:
    """Tells that it is equal to anything, and can't be a key of a dict."""

    __hash__ = None

    def __eq__(self, other):
        return True


class EqualByHash:
    """Tells that it is equal to anything, and takes the place of a thing among the keys of a dict."""

    def __init__(self, thing):
        self.thing = thing

    def __hash__(self):
        return hash(self.thing)

    def __eq__(self, other):
        return True


# Each is no option, no options, no ballot, no part of a poll, no order and no paper, whatever is asked.
THINGS = (None, True, False, 0, 1, -1, 7, 10 ** 40, 1.0, 0.5, float("nan"), "", "zz", "order", "in", b"a", b"",
          object(), EqualToAll(), Share, Share(1), len, {}, {"a": "b"}, {("a", "b"): 1}, set(), {"zz"}, frozenset(),
          range(3), [None], [[]], ["zz"], [["a"]], [1], [True], [EqualToAll()], (None,), (1,), ("ZZ",), ([],),
          (["a"],), ({},), (EqualToAll(),), (EqualToAll(), EqualToAll()), ("in", None), ("out", None),
          ("in", EqualToAll()), ("out", EqualToAll()), ("in", (), ()), ("", []), (None, []), ([], []), (0, ()),
          ("order", None), ("order", [[]]), ("order", {}), ("lets", "A"), ("marks", {"a": 3}), Poll(("a", "b")))


# Names that begin or end alike, or are parts of one another.
LONG_NAMES = ("ab", "b", "abc", "ba", "bbbbbbbb", "abcabcab")


def row_of(text, many=1):
    """A row of an order of single options: row_of("bac", 3)."""
    return (("order", tuple((name,) for name in text)), many)


def poll_of(options, *rows):
    """A poll of one-letter options and rows such as "bac 3"."""
    told = [row.split() for row in rows]
    return Poll(tuple(options), tuple(row_of(text, int(many)) for text, many in told))


def poll_with(options, by):
    """A poll in which the margin of one over other is by[one + other], twice; 0 of those that by doesn't tell."""
    rows = []
    for pair, half in by.items():
        rest = "".join(name for name in options if name not in pair)
        rows.append(row_of(pair + rest, half))
        rows.append(row_of(rest[::-1] + pair, half))
    return Poll(tuple(options), tuple(rows))


def any_ballot(chance, options):
    """A ballot of any form and length."""
    names = chance.sample(options, chance.randint(0, len(options)))
    form = chance.choice(("order", "order", "lets", "marks"))
    if form == "lets":
        return form, tuple(names)
    if form == "marks":
        return form, tuple((name, chance.randint(0, 9)) for name in names)
    tiers = []
    for name in names:
        if tiers and chance.random() < 0.3:
            tiers[-1] += (name,)
        else:
            tiers.append((name,))
    return form, tuple(tiers)


def any_poll(chance, most, *, least=1, rows=8, voices=4, names="abcdef"):
    """A poll of ballots of all forms, its options in any order."""
    options = chance.sample(names, chance.randint(least, most))
    told = [(any_ballot(chance, options), chance.randint(1, voices)) for _ in range(chance.randint(0, rows))]
    return Poll(tuple(options), tuple(told))


def ringed_poll(chance, most, *, least=3, by=3):
    """A poll of margins that hang on chance alone, so that rings are many."""
    options = chance.sample("abcdef", chance.randint(least, most))
    margins = {}
    for one, other in combinations(options, 2):
        half = chance.randint(-by, by)
        if half > 0:
            margins[one + other] = half
        elif half < 0:
            margins[other + one] = -half
    return poll_with("".join(options), margins)


def many_polls(seed, most, how_many, *, least=1):
    """A list of polls, the same ones each time: of all forms, with rings, with few voices, with great numbers."""
    chance = Random(seed)
    found = []
    for at in range(how_many):
        if at % 3 == 0:
            found.append(any_poll(chance, most, least=least))
        elif at % 3 == 1:
            found.append(ringed_poll(chance, max(most, 2), least=max(least, 2)))
        else:
            voices = chance.choice((1, 2, 1000000))
            found.append(any_poll(chance, most, least=least, rows=4, voices=voices, names=LONG_NAMES))
    return found


def ahead_told(ballot, one, other):
    """Whether a ballot has one ahead of other: the document's words, gone through straight."""
    form, told = ballot
    if form == "order":
        where = {name: at for at, tier in enumerate(told) for name in tier}
        return one in where and (other not in where or where[one] < where[other])
    if form == "lets":
        return one in told and other not in told
    return dict(told).get(one, 0) > dict(told).get(other, 0)


def margin_told(poll, one, other):
    """The margin of one over other, gone through voice by voice."""
    return sum(many * (ahead_told(ballot, one, other) - ahead_told(ballot, other, one)) for ballot, many in poll.voices)


def margins_told(poll):
    """All margins, of an option over itself too."""
    key = repr(poll)
    if key not in KNOWN:
        KNOWN[key] = {(one, other): margin_told(poll, one, other) for one, other in product(poll.options, repeat=2)}
    return KNOWN[key]


# Margins gone through once for each poll: it takes long.
KNOWN = {}
