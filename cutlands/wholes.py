"""What the other modules need of whole numbers."""


def is_whole(thing):
    """Whether anything at all is a whole number."""
    return isinstance(thing, int) and not isinstance(thing, bool)


def is_number_of(thing, many):
    """Whether anything at all is a number from 0 on of one of so many things."""
    return is_whole(thing) and 0 <= thing < many


def sign_of(number):
    """The sign of a whole number: 1, 0 or -1."""
    if number > 0:
        return 1
    if number < 0:
        return -1
    return 0


def common_divisor(one, other):
    """The greatest common divisor, never below 0; 0 where both are 0."""
    while other != 0:
        rest = one % other
        one = other
        other = rest
    return abs(one)


def dot(numbers, others):
    """The products of numbers and others, pair by pair, added up."""
    return sum([one * other for one, other in zip(numbers, others)])


def lowest(row):
    """A tuple of whole numbers, divided by the greatest number that divides all of them."""
    divisor = 0
    for number in row:
        divisor = common_divisor(divisor, number)
        if divisor == 1:
            return row
    if divisor == 0:
        return row
    return tuple([number // divisor for number in row])


def cleared(row, other, place):
    """The row with 0 at a place where the other has not: so often the row, and so often the other added."""
    # The row is taken so often from 1 on, so what is asked of its sign stays as it is. The other
    # is, too, where the two have unlike signs at the place.
    if row[place] == 0:
        return row
    often = abs(other[place])
    other_often = -row[place] * sign_of(other[place])
    return lowest(tuple([often * mine + other_often * theirs for mine, theirs in zip(row, other)]))
