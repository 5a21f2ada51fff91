"""What counts as a whole number, the same for every module."""


def is_whole(value):
    # Python counts True and False among its ints; the document does not.
    return isinstance(value, int) and not isinstance(value, bool)
