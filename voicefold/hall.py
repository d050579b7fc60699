"""A hall: rows of voices that come and go, and options that are struck and stand again."""

from voicefold.ballots import check_option
from voicefold.errors import BadPoll
from voicefold.polls import Poll, check_poll
from voicefold.rules import lot
from voicefold.words import is_place


class Hall:
    """Options, of which some may be struck, and rows of a ballot and how many voices have it."""

    def __init__(self, options):
        check_poll(options, ())
        self.options = options
        self.rows = []
        self.gone = []

    def cast(self, ballot, *, many=1):
        """Puts a row behind those that are there, and tells its place."""
        check_poll(self.options, (*self.rows, (ballot, many)))
        self.rows.append((ballot, many))
        return len(self.rows) - 1

    def recall(self, at):
        """Takes the row at a place away, and tells it."""
        if not is_place(at, len(self.rows)):
            raise BadPoll("at is a place of a row")
        return self.rows.pop(at)

    def strike(self, name):
        """Takes an option out of those that stand."""
        check_option(self.options, name)
        if name in self.gone:
            raise BadPoll("this option doesn't stand")
        if len(self.gone) == len(self.options) - 1:
            raise BadPoll("this option is the last one that stands")
        self.gone.append(name)

    def stand(self, name):
        """Puts an option back among those that stand."""
        check_option(self.options, name)
        if name not in self.gone:
            raise BadPoll("this option does stand")
        self.gone.remove(name)

    def struck(self):
        """The list of the options that don't stand, in order."""
        return [name for name in self.options if name in self.gone]

    def poll(self):
        """The poll of all rows, of the options that stand."""
        standing = tuple([name for name in self.options if name not in self.gone])
        return Poll(self.options, tuple(self.rows)).only(standing)

    def copied(self):
        """Another hall that stands alike and goes on by itself."""
        found = Hall(self.options)
        found.rows = list(self.rows)
        found.gone = list(self.gone)
        return found

    def lot_without(self, rule, names):
        """The list of the options that win by the rule where the names are struck for this question alone."""
        if not isinstance(names, list):
            raise BadPoll("names are a list of unlike names that stand")
        # A copy is struck: whatever is refused, this hall stands as it stood.
        found = self.copied()
        for name in names:
            found.strike(name)
        return lot(found.poll(), rule)
