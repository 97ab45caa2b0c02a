"""What the other modules ask of plain values, whatever these are."""

from hoursmeant.errors import InvalidNumber


def is_number(value):
    """Whether the value is an integer, True and False being none."""
    return isinstance(value, int) and not isinstance(value, bool)


def is_pair(value):
    """Whether the value is a tuple of two items."""
    return isinstance(value, tuple) and len(value) == 2


def first_word(value):
    """The string that the value begins with if it is a tuple that does, else None."""
    if isinstance(value, tuple) and len(value) > 0 and isinstance(value[0], str):
        return value[0]
    return None


def check_number(value):
    """Raise InvalidNumber unless the value is an integer."""
    if not is_number(value):
        raise InvalidNumber("not an integer")
