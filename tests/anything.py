"""Things of all kinds, for questions that may be asked of anything."""

from decimal import Decimal
from fractions import Fraction


class Sulky:
    """A thing that is angry at whoever compares, counts, walks or shows it."""

    def refuse(self, *others):
        raise RuntimeError("asked of a sulky thing")

    __eq__ = __lt__ = __le__ = __gt__ = __ge__ = refuse
    __len__ = __iter__ = __getitem__ = __bool__ = __index__ = __repr__ = __str__ = refuse
    __hash__ = None


def things_of_no_number():
    """Things among which no whole number stands."""
    return [
        None, True, False, 0.0, 1.0, -1.5, float("nan"), float("inf"), 1j, Decimal(1),
        Fraction(1, 2), "", "0", "1", b"1", (), (0,), [], [1], [[]], {}, {0: 1}, set(), {1},
        range(2), object(), int, len, NotImplemented, Sulky(),
    ]
