"""The classes of refusal, each with what it bears as fields."""


class PollError(ValueError):
    """What is told of a poll is refused; why says the reason."""

    def __init__(self, why=""):
        # Python itself keeps only what is handed in by place, and why may come by its name.
        ValueError.__init__(self, why)
        self.why = why


class BadBallot(PollError):
    """What is handed in is no ballot."""


class BadPoll(PollError):
    """What is handed in makes no poll."""


class BadOrder(PollError):
    """What is handed in is no such order."""


class BadRule(PollError):
    """What is handed in is no rule, or no promise of one."""


class BadSums(PollError):
    """What is handed in is no list of sums."""


class BadClaim(PollError):
    """What is handed in is no claim."""


class BadMargins(PollError):
    """What is handed in is no dict of margins."""


class NoShare(PollError):
    """There is no share of num over this."""

    def __init__(self, num, *, over):
        # The numbers stay out of the text: Python refuses to write out very great ones.
        PollError.__init__(self, "no share over nought")
        self.num = num
        self.over = over


class NoOption(KeyError):
    """What is handed in as name is none of the options."""

    def __init__(self, name):
        self.name = name
