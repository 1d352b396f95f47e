"""What an integer is."""


def is_integer(value):
    """Tell whether a value is an integer; True and False are none."""
    return isinstance(value, int) and not isinstance(value, bool)


def is_integer_within(value, least, greatest):
    """Tell whether a value is an integer from least to greatest."""
    return is_integer(value) and least <= value <= greatest
