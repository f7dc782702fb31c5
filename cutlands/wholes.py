"""What the other modules need of whole numbers."""


def is_whole(thing):
    """Whether anything at all is a whole number."""
    return isinstance(thing, int) and not isinstance(thing, bool)


def is_number_of(thing, many):
    """Whether anything at all is a number from 0 on of one of so many things."""
    return is_whole(thing) and 0 <= thing < many


def sign_of(number):
    """The sign of a whole number: 1, 0 or -1."""
    if number > 0:
        return 1
    if number < 0:
        return -1
    return 0


def common_divisor(one, other):
    """The greatest common divisor, never below 0; 0 where both are 0."""
    while other != 0:
        rest = one % other
        one = other
        other = rest
    return abs(one)
