"""Questions about values that several modules ask."""

from chipfloor.errors import BadNumber, BadOrders

LONGEST_SIDE = 100


def is_integer(value):
    """True and False are not integers here, though Python counts them so."""
    return isinstance(value, int) and not isinstance(value, bool)


def is_between(value, least, most):
    """Whether a value is an integer from least to most."""
    return is_integer(value) and least <= value <= most


def is_tuple_of(value, least, most):
    """Whether a value is a tuple of least to most items."""
    return isinstance(value, tuple) and least <= len(value) <= most


def is_size(value):
    """Whether any value is a size."""
    return is_tuple_of(value, 2, 2) and is_side(value[0]) and is_side(value[1])


def is_side(value):
    """Whether any value is a width or a height of a size."""
    return is_between(value, 1, LONGEST_SIDE)


def is_order(value, many):
    """Whether any value is a tuple of the numbers below many, each once."""
    if not is_tuple_of(value, many, many) or not all([is_between(item, 0, many - 1) for item in value]):
        return False
    return len(set(value)) == many


def is_ascending(value):
    """Whether each item of a tuple of numbers is greater than the one before."""
    return all([one < other for one, other in zip(value, value[1:])])


def wrong_index(values, is_right):
    """The index of the first one of the values that is not right, None if all are."""
    for index, value in enumerate(values):
        if not is_right(value):
            return index
    return None


def check_number(value, least, most):
    """Raise BadNumber for a value that is no integer from least to most."""
    if not is_between(value, least, most):
        raise BadNumber(f"no integer from {least} to {most}")


def check_order(value, many):
    """Raise BadOrders for a value that is no order of so many things."""
    if not is_order(value, many):
        raise BadOrders(f"no order of {many} things")
