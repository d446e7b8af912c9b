"""Values that several tests hand in."""

from itertools import product

COUNTS = (2, 3, 4, 5)


class Plain:
    """An object of a class that has nothing of its own."""


class EqualToAll:
    """An object that passes for any other where it is only compared."""

    def __eq__(self, other):
        return True

    def __lt__(self, other):
        return True

    __le__ = __gt__ = __ge__ = __lt__

    def __hash__(self):
        return 1


class Touchy:
    """An object that breaks what asks it anything."""

    def _break(self, *rest):
        raise RuntimeError("this object was asked")

    __eq__ = __lt__ = __le__ = __gt__ = __ge__ = __hash__ = _break
    __bool__ = __len__ = __iter__ = __int__ = __index__ = __repr__ = __str__ = _break


class TouchyInt(int):
    """A number of a kind of its own that breaks what compares it."""

    def _break(self, *rest):
        raise RuntimeError("this number was compared")

    __lt__ = __le__ = __gt__ = __ge__ = __eq__ = _break
    __hash__ = int.__hash__


class TouchyList(list):
    """A list of a kind of its own that breaks what goes over it."""

    def _break(self, *rest):
        raise RuntimeError("this list was asked")

    __len__ = __iter__ = __getitem__ = _break


class TouchyTuple(tuple):
    """A tuple of a kind of its own that breaks what goes over it."""

    def _break(self, *rest):
        raise RuntimeError("this tuple was asked")

    __len__ = __iter__ = __getitem__ = _break


VERY_GREAT = 10 ** 6000

NO_WHOLE_NUMBERS = (
    True, False, None, "", "2", "two", b"2", [], [2], (), (2,), {}, {2: 2}, {2}, frozenset({2}),
    2.0, 3.0, 0.0, 1.0, -1.0, float("nan"), float("inf"), 3 + 0j, int, len, range(3),
    Plain(), Plain, EqualToAll(), Touchy(), TouchyInt(3), TouchyInt(1), TouchyInt(0),
)
NO_COUNTS = NO_WHOLE_NUMBERS + (1, 6, 0, 7, 100, -1, -2, -5, VERY_GREAT, -VERY_GREAT)


def all_weighings(many):
    """All weighings of so many things, told by laying each thing left, right or aside."""
    found = []
    for places in product("lr-", repeat=many):
        left = tuple(thing for thing in range(many) if places[thing] == "l")
        right = tuple(thing for thing in range(many) if places[thing] == "r")
        if left and len(left) == len(right):
            found.append((left, right))
    return sorted(found)


def all_cases(many):
    return list(product((-1, 0, 1), repeat=many))
