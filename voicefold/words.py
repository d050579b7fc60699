"""What a whole number is, a name, a tuple of so many parts, and a place among so many."""

LONGEST_NAME = 8


def is_whole(thing):
    """Whether thing is a whole number: an int that is no truth."""
    return isinstance(thing, int) and not isinstance(thing, bool)


def is_name(thing):
    """Whether thing is a name: a text of one to eight small letters, a to z."""
    if not isinstance(thing, str):
        return False
    if not 1 <= len(thing) <= LONGEST_NAME:
        return False
    # Not islower(): it lets by figures, and letters beyond a to z.
    return all(["a" <= sign <= "z" for sign in thing])


def is_tuple_of(thing, many):
    """Whether thing is a tuple of so many parts."""
    return isinstance(thing, tuple) and len(thing) == many


def is_place(thing, many):
    """Whether thing is a place among so many: a whole number from 0, below many."""
    return is_whole(thing) and 0 <= thing < many
