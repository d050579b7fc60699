"""Shares: whole numbers over whole numbers, reckoned without loss."""

from math import gcd

from voicefold.errors import NoShare


class Share:
    """num over over, in lowest terms, over above 0. Nothing changes a share."""

    def __init__(self, num, over=1):
        if over == 0:
            raise NoShare(num, over=0)
        common = gcd(num, over)
        if over < 0:
            # Both are divided by a number below 0, so that a minus comes to stand at num.
            common = -common
        self.num = num // common
        self.over = over // common

    def __eq__(self, other):
        return isinstance(other, Share) and self.num == other.num and self.over == other.over

    def __repr__(self):
        return f"Share({self.num}, {self.over})"

    def __str__(self):
        if self.over == 1:
            return str(self.num)
        return f"{self.num}/{self.over}"

    def plus(self, other):
        """Both together."""
        return Share(self.num * other.over + other.num * self.over, self.over * other.over)

    def less(self, other):
        """This one less the other one."""
        return Share(self.num * other.over - other.num * self.over, self.over * other.over)

    def times(self, other):
        """Both multiplied."""
        return Share(self.num * other.num, self.over * other.over)

    def by(self, other):
        """This one over the other one."""
        if other.num == 0:
            raise NoShare(self.num, over=0)
        return Share(self.num * other.over, self.over * other.num)

    def below(self, other):
        """Whether this one is less than the other one."""
        return self.num * other.over < other.num * self.over


def shares_sum(shares):
    """The sum of a list of shares, Share(0) of none."""
    total = Share(0)
    for share in shares:
        total = total.plus(share)
    return total
