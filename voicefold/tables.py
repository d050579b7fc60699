"""Tables of whole numbers, in which sums of unknowns are turned about without loss."""

from voicefold.shares import Share


class Table:
    """Rows that tell some unknowns, the inner ones, by the others, the outer ones.

    over times a row's inner unknown is: each outer unknown times the row's number at its column, and the
    row's last number, all together. Unknowns are known by numbers: at first those from 0 on are outer, and
    those behind them inner, row by row.
    """

    def __init__(self, rows, many):
        self.rows = list(rows)
        self.outer = list(range(many))
        self.inner = list(range(many, many + len(rows)))
        self.over = 1

    def swap(self, at, column):
        """Turns the table so that the inner unknown at a row and the outer one of a column change places."""
        own = self.rows[at]
        sign = 1 if own[column] > 0 else -1
        turned = [-sign * number for number in own]
        turned[column] = sign * self.over
        self.rows = [self.without(row, own, column) for row in self.rows]
        self.rows[at] = turned
        self.inner[at], self.outer[column] = self.outer[column], self.inner[at]
        self.over = sign * own[column]

    def without(self, row, own, column):
        """A row as it is when the column's unknown is told in it by the row own."""
        sign = 1 if own[column] > 0 else -1
        # Each number is a determinant of the first table's, so that what is divided here leaves no rest.
        found = [sign * (own[column] * mine - row[column] * other) // self.over for mine, other in zip(row, own)]
        found[column] = sign * row[column]
        return found

    def shares(self, many):
        """The list of what the first so many unknowns are, where all outer ones are 0."""
        found = {unknown: Share(self.rows[at][-1], self.over) for at, unknown in enumerate(self.inner)}
        return [found.get(unknown, Share(0)) for unknown in range(many)]


def settle(table):
    """Swaps until no inner unknown is below 0, then tells None; else the place of a row that is always below 0.

    No outer unknown may be below 0, so a row is always below 0 where its last number is, and none above 0.
    """
    while True:
        at = first_below(table)
        if at is None:
            return None
        column = first_above(table, table.rows[at])
        if column is None:
            return at
        table.swap(at, column)


def first_below(table):
    """The place of the row, of those below 0, with the first unknown; None where there is none."""
    # The first unknown in all choices (Bland's rule): others may swap round and round without end.
    found = [(unknown, at) for at, unknown in enumerate(table.inner) if table.rows[at][-1] < 0]
    return min(found)[1] if found else None


def first_above(table, row):
    """The column, of those where the row's number is above 0, of the first unknown; None where there is none."""
    found = [(unknown, column) for column, unknown in enumerate(table.outer) if row[column] > 0]
    return min(found)[1] if found else None


def heighten(table):
    """Swaps until what the last row tells is as great as it can be while no unknown is below 0.

    No inner unknown but the last row's may be below 0 ahead of it, and there must be a greatest.
    """
    column = first_above(table, table.rows[-1])
    while column is not None:
        table.swap(first_bar(table, column), column)
        column = first_above(table, table.rows[-1])


def first_bar(table, column):
    """The place of the row that first comes down to 0 where the column's unknown grows."""
    bars = [at for at, row in enumerate(table.rows[:-1]) if row[column] < 0]
    found = bars[0]
    for at in bars[1:]:
        if bars_sooner(table, column, at, found):
            found = at
    return found


def bars_sooner(table, column, at, other):
    """Whether the row at one place comes down to 0 sooner than that at the other one, or with it but is first."""
    mine, its = table.rows[at], table.rows[other]
    return (-mine[-1] * its[column], table.inner[at]) < (-its[-1] * mine[column], table.inner[other])
