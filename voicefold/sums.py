"""Sums: what they are, what meets them, and what shows that nothing does."""

from math import lcm

from voicefold.errors import BadSums
from voicefold.shares import Share, shares_sum
from voicefold.tables import Table, settle
from voicefold.words import is_tuple_of

MOST_ROWS = 30
MOST_PARTS = 12


def check_sums(sums):
    """Refuses with BadSums what are no sums."""
    if not are_sums(sums):
        raise BadSums("sums are a list of at most thirty rows of at most twelve parts, as many in each")


def are_sums(thing):
    """Whether thing is a list of at most thirty rows, each of as many parts."""
    if not isinstance(thing, list) or len(thing) > MOST_ROWS:
        return False
    if not all([is_row(row) for row in thing]):
        return False
    return all([len(row[0]) == len(thing[0][0]) for row in thing])


def is_row(thing):
    """Whether thing is a tuple of parts and a least."""
    if not is_tuple_of(thing, 2) or not isinstance(thing[0], tuple) or len(thing[0]) > MOST_PARTS:
        return False
    return all([isinstance(share, Share) for share in thing[0]]) and isinstance(thing[1], Share)


def are_not_below_nought(thing, many):
    """Whether thing is a tuple of so many shares, each no less than 0."""
    return is_tuple_of(thing, many) and all([isinstance(share, Share) and share.num >= 0 for share in thing])


def parts_told(sums, many):
    """How many parts the rows have; many where there are no rows."""
    return len(sums[0][0]) if sums else many


def met_by(sums, *, many=0):
    """A tuple that meets the sums, None where none does."""
    check_sums(sums)
    parts = parts_told(sums, many)
    table = table_of(sums, parts)
    if settle(table) is not None:
        return None
    return tuple(table.shares(parts))


def unmet(sums, *, many=0):
    """A paper that the sums can't be met, None where they can be."""
    check_sums(sums)
    parts = parts_told(sums, many)
    table = table_of(sums, parts)
    at = settle(table)
    if at is None:
        return None
    # Over times the row's unknown, and each outer one times the minus of the row's number, come to a number below 0,
    # whatever the unknowns are: so these, none below 0, are how often each row of sums is taken.
    taken = {unknown: -number for unknown, number in zip(table.outer, table.rows[at])}
    taken[table.inner[at]] = table.over
    return tuple([Share(taken.get(parts + place, 0) * common_over(row)) for place, row in enumerate(sums)])


def table_of(sums, parts):
    """A table with the parts' shares as outer unknowns, and what each row has above its least as inner ones."""
    return Table([whole_row(row) for row in sums], parts)


def whole_row(row):
    """The parts, and the least turned about, all times a number that makes them whole."""
    parts, least = row
    common = common_over(row)
    return [share.num * (common // share.over) for share in parts] + [-least.num * (common // least.over)]


def common_over(row):
    """The least number that each over of a row divides."""
    parts, least = row
    common = least.over
    for share in parts:
        common = lcm(common, share.over)
    return common


def weighed_sum(shares, weights):
    """Each share times the weight at its place, together."""
    return shares_sum([share.times(weight) for share, weight in zip(shares, weights)])


def shows_met(sums, paper, *, many=0):
    """Whether paper is a tuple that meets the sums."""
    check_sums(sums)
    if not are_not_below_nought(paper, parts_told(sums, many)):
        return False
    return not any([weighed_sum(parts, paper).below(least) for parts, least in sums])


def shows_unmet(sums, paper, *, many=0):
    """Whether paper shows that the sums can't be met."""
    check_sums(sums)
    if not are_not_below_nought(paper, len(sums)):
        return False
    columns = [[parts[place] for parts, _ in sums] for place in range(parts_told(sums, many))]
    if any([weighed_sum(column, paper).num > 0 for column in columns]):
        return False
    return weighed_sum([least for _, least in sums], paper).num > 0
