"""Checks of numbers and counts that several modules share."""

from greatestback.errors import BadPlace, TooMany


def is_number(value, below):
    """True if value is an integer, at least 0 and less than below."""
    return isinstance(value, int) and not isinstance(value, bool) and 0 <= value < below


def check_number(value, below):
    """Raise BadPlace(value) if value is not an integer, at least 0 and less than below."""
    if not is_number(value, below):
        raise BadPlace(value)


def check_many(many, limit):
    """Raise TooMany(many, limit) if the count is greater than its limit."""
    if many > limit:
        raise TooMany(many, limit)


def is_number_pair(value, size):
    """True if value is a pair of integers, each at least 0 and less than the item of size in its place."""
    if not isinstance(value, tuple) or len(value) != 2:
        return False
    return is_number(value[0], size[0]) and is_number(value[1], size[1])


def is_placing_of(value, many):
    """True if value is a tuple that contains each of 0 to many - 1 exactly once."""
    if not isinstance(value, tuple) or len(value) != many:
        return False
    # Only integers may come into the set: other items may have no hash.
    return all([is_number(item, many) for item in value]) and len(set(value)) == many


def check_placing(value, many):
    """Raise BadPlace(value) if value is not a placing of many."""
    if not is_placing_of(value, many):
        raise BadPlace(value)
