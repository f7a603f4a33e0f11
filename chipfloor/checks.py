"""Questions about values that several modules ask."""

from chipfloor.errors import BadNumber

LONGEST_SIDE = 100


def is_integer(value):
    """True and False are not integers here, though Python counts them so."""
    return isinstance(value, int) and not isinstance(value, bool)


def is_between(value, least, most):
    """Whether a value is an integer from least to most."""
    return is_integer(value) and least <= value <= most


def is_tuple_of(value, least, most):
    """Whether a value is a tuple of least to most items."""
    return isinstance(value, tuple) and least <= len(value) <= most


def is_size(value):
    """Whether any value is a size."""
    return is_tuple_of(value, 2, 2) and is_side(value[0]) and is_side(value[1])


def is_side(value):
    """Whether any value is a width or a height of a size."""
    return is_between(value, 1, LONGEST_SIDE)


def check_number(value, least, most):
    """Raise BadNumber for a value that is no integer from least to most."""
    if not is_between(value, least, most):
        raise BadNumber(f"no integer from {least} to {most}")
