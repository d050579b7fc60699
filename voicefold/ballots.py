"""Options, ballots by them, and what a ballot has ahead of what."""

from voicefold.errors import BadBallot, NoOption
from voicefold.words import is_name, is_tuple_of, is_whole

MOST_OPTIONS = 6
GREATEST_MARK = 9


def are_names(thing):
    """Whether thing is a tuple of unlike names, one at least."""
    if not isinstance(thing, tuple) or len(thing) == 0:
        return False
    return all([is_name(name) for name in thing]) and len(set(thing)) == len(thing)


def are_options(thing):
    """Whether thing is a tuple of one to six unlike names."""
    return are_names(thing) and len(thing) <= MOST_OPTIONS


def is_option(options, thing):
    """Whether thing is one of the options."""
    # Only a text is compared: a thing of another kind may tell that it is equal to anything.
    return isinstance(thing, str) and thing in options


def check_option(options, name):
    """Refuses with NoOption what is none of the options."""
    if not is_option(options, name):
        raise NoOption(name)


def are_unlike_options(options, names):
    """Whether all in names, a tuple or a list, are options, and none stands there twice."""
    return all([is_option(options, name) for name in names]) and len(set(names)) == len(names)


def check_ballot(options, ballot):
    """Refuses with BadBallot what is no ballot by the options."""
    if not is_ballot(options, ballot):
        raise BadBallot("a ballot is an order of tiers, lets or marks, by the options alone")


def is_ballot(options, thing):
    """Whether thing is a ballot by the options."""
    if not is_tuple_of(thing, 2) or not isinstance(thing[0], str) or not isinstance(thing[1], tuple):
        return False
    form, told = thing
    if form == "order":
        return are_tiers(options, told)
    if form == "lets":
        return are_unlike_options(options, told)
    if form == "marks":
        return are_marks(options, told)
    return False


def are_tiers(options, told):
    """Whether told, a tuple, holds tuples of options, none of them empty, no option twice in all."""
    if not all([isinstance(tier, tuple) and len(tier) > 0 for tier in told]):
        return False
    return are_unlike_options(options, [name for tier in told for name in tier])


def are_marks(options, told):
    """Whether told, a tuple, holds tuples of an option and a mark, no option twice."""
    if not all([is_tuple_of(pair, 2) and is_mark(pair[1]) for pair in told]):
        return False
    return are_unlike_options(options, [pair[0] for pair in told])


def is_mark(thing):
    """Whether thing is a whole number from 0 to 9."""
    return is_whole(thing) and 0 <= thing <= GREATEST_MARK


def ranks(options, ballot):
    """A dict of each option's rank by a ballot: those of a lesser rank are ahead."""
    form, told = ballot
    if form == "order":
        return order_ranks(options, told)
    if form == "lets":
        return {name: 0 if name in told else 1 for name in options}
    marks = {name: mark for name, mark in told}
    return {name: -marks.get(name, 0) for name in options}


def order_ranks(options, told):
    """Each option's rank by an order: its tier's place, and one behind all of them where it isn't named."""
    found = {name: len(told) for name in options}
    for at, tier in enumerate(told):
        for name in tier:
            found[name] = at
    return found


def tiers(options, ballot):
    """The ballot as a tuple of tuples of names, all options in it, the foremost first."""
    rank = ranks(options, ballot)
    levels = sorted(set(list(rank.values())))
    return tuple([tuple([name for name in options if rank[name] == level]) for level in levels])


def ahead(options, ballot, one, other):
    """Whether the ballot has one ahead of other."""
    check_option(options, one)
    check_option(options, other)
    rank = ranks(options, ballot)
    return rank[one] < rank[other]


def named(ballot):
    """The list of the options that a ballot names in an order or lets by, or marks above 0."""
    form, told = ballot
    if form == "order":
        return [name for tier in told for name in tier]
    if form == "lets":
        return list(told)
    return [name for name, mark in told if mark > 0]


def narrowed(ballot, left):
    """The ballot without all options but those left, and without tiers that come to be empty."""
    form, told = ballot
    if form == "order":
        cut = [tuple([name for name in tier if name in left]) for tier in told]
        return form, tuple([tier for tier in cut if len(tier) > 0])
    if form == "lets":
        return form, tuple([name for name in told if name in left])
    return form, tuple([pair for pair in told if pair[0] in left])
