"""What kinds of values there are: the tests that the constructors of all modules share."""

KINDS = ("marked", "plain")


def is_integer(value):
    """Whether any value is an integer; a bool is none."""
    return isinstance(value, int) and not isinstance(value, bool)


def is_number(value):
    """Whether any value is an integer from 0 on."""
    return is_integer(value) and value >= 0


def is_kind(value):
    """Whether any value is the name of a kind of people."""
    return isinstance(value, str) and value in KINDS


def is_sequence(value):
    """Whether any value is a list or a tuple."""
    return isinstance(value, (list, tuple))


def is_crowd(value):
    """Whether any value is a crowd; a list is none."""
    if not isinstance(value, tuple) or len(value) != 2:
        return False
    return is_number(value[0]) and is_number(value[1])
