"""Values that several tests hand in."""

from functools import cache
from itertools import combinations, product
from random import Random

COUNTS = (2, 3, 4, 5)


class Plain:
    """An object of a class that has nothing of its own."""


class EqualToAll:
    """An object that passes for any other where it is only compared."""

    def __eq__(self, other):
        return True

    def __lt__(self, other):
        return True

    __le__ = __gt__ = __ge__ = __lt__

    def __hash__(self):
        return 1


class Touchy:
    """An object that breaks what asks it anything."""

    def _break(self, *rest):
        raise RuntimeError("this object was asked")

    __eq__ = __lt__ = __le__ = __gt__ = __ge__ = __hash__ = _break
    __bool__ = __len__ = __iter__ = __int__ = __index__ = __repr__ = __str__ = _break


class TouchyInt(int):
    """A number of a kind of its own that breaks what compares it."""

    def _break(self, *rest):
        raise RuntimeError("this number was compared")

    __lt__ = __le__ = __gt__ = __ge__ = __eq__ = _break
    __hash__ = int.__hash__


class TouchyList(list):
    """A list of a kind of its own that breaks what goes over it."""

    def _break(self, *rest):
        raise RuntimeError("this list was asked")

    __len__ = __iter__ = __getitem__ = _break


class TouchyTuple(tuple):
    """A tuple of a kind of its own that breaks what goes over it."""

    def _break(self, *rest):
        raise RuntimeError("this tuple was asked")

    __len__ = __iter__ = __getitem__ = _break


VERY_GREAT = 10 ** 6000

NO_WHOLE_NUMBERS = (
    True, False, None, "", "2", "two", b"2", [], [2], (), (2,), {}, {2: 2}, {2}, frozenset({2}),
    2.0, 3.0, 0.0, 1.0, -1.0, float("nan"), float("inf"), 3 + 0j, int, len, range(3),
    Plain(), Plain, EqualToAll(), Touchy(), TouchyInt(3), TouchyInt(1), TouchyInt(0),
)
NO_COUNTS = NO_WHOLE_NUMBERS + (1, 6, 0, 7, 100, -1, -2, -5, VERY_GREAT, -VERY_GREAT)


def all_weighings(many):
    """All weighings of so many things, told by laying each thing left, right or aside."""
    return list(kept_weighings(many))


@cache
def kept_weighings(many):
    found = []
    for places in product("lr-", repeat=many):
        left = tuple(thing for thing in range(many) if places[thing] == "l")
        right = tuple(thing for thing in range(many) if places[thing] == "r")
        if left and len(left) == len(right):
            found.append((left, right))
    return sorted(found)


def all_cases(many):
    return list(product((-1, 0, 1), repeat=many))


def one_apart(many, *numbers):
    """The cases of so many things in which one thing has one of these numbers and all others 0."""
    cases = []
    for number in numbers:
        for thing in range(many):
            cases.append(tuple(number if other == thing else 0 for other in range(many)))
    return cases


def two_heavier(many):
    return [tuple(int(thing in pair) for thing in range(many)) for pair in combinations(range(many), 2)]


# Cases that fewer than four weighings don't tell.
SLOW = [
    (0, -1, 1, -1), (-1, 0, 1, -1), (0, -1, 1, 0), (-1, 0, 0, 0), (-1, -1, 0, -1), (1, 0, 0, -1),
    (1, -1, 1, 0), (0, -1, -1, -1), (1, -1, 0, -1), (-1, 0, 1, 1), (1, 0, 1, -1), (-1, 0, 1, 0),
]


def drawn_cases(many, times):
    """So many lists of cases, of one to twelve, drawn by chance that is the same each time."""
    chance = Random(many)
    everything = all_cases(many)
    for _ in range(times):
        yield chance.sample(everything, chance.randint(1, min(12, len(everything))))


def drawn_done(many, cases, times):
    """So many lists of weighings that were done where one of the cases is so, drawn likewise."""
    chance = Random(len(cases))
    weighings = all_weighings(many)
    for _ in range(times):
        case = chance.choice(cases)
        picked = [chance.choice(weighings) for _ in range(chance.randint(0, 3))]
        yield [(weighing, outcome(weighing, case)) for weighing in picked]


def outcome(weighing, case):
    """What a weighing comes to in a case, told apart from the program."""
    left, right = (sum(case[thing] for thing in pan) for pan in weighing)
    return (left > right) - (left < right)


NO_OUTCOMES = NO_WHOLE_NUMBERS + (2, -2, 3, VERY_GREAT, -VERY_GREAT)
NO_LISTS = (
    None, True, False, 0, 1, 2, 1.5, "", "01", b"01", (), {}, {1, 2}, frozenset(), range(2), iter([]), list, len,
    Plain(), EqualToAll(), Touchy(), TouchyList(), TouchyTuple(),
)
NO_TUPLES = NO_LISTS[:10] + ([], [0, 1]) + NO_LISTS[11:]


def no_cases(many):
    """Things of many kinds that are no list of cases of so many things."""
    good = (1,) + (0,) * (many - 1)
    wrong = list(NO_LISTS) + [[], (good,), {good}, {good: 1}, TouchyList([good]), iter([good])]
    wrong += [[good, good], [good, (0,) * many, good], [(0,) * many] * 13, [good[:-1]], [good + (0,)], [list(good)]]
    wrong += [[(0,) * many, thing] for thing in NO_TUPLES]
    wrong += [[(number,) + (0,) * (many - 1)] for number in NO_OUTCOMES]
    wrong += [[(0,) * (many - 1) + (number,), good] for number in NO_OUTCOMES]
    if many > 2:
        wrong += [all_cases(many)[:13], all_cases(many)]
    return wrong


def no_weighings(many):
    """Things of many kinds that are no weighing of so many things."""
    wrong = list(NO_TUPLES) + [(), ((0,),), ((0,), (1,), ()), ((0,), (1,), (0,)), (0, 1), [(0,), (1,)]]
    wrong += [([0], (1,)), ((0,), [1]), ((0,), (0,)), ((), ()), ((0,), ()), ((0,), (many,)), ((-1,), (0,))]
    wrong += [((1, 0), (2, 3)), ((0, 0), (1, 1)), ((0, 1), (0, 2)), ((0,), (1, 2)), ((0, 1), (2, many))]
    wrong += [((number,), (1,)) for number in NO_WHOLE_NUMBERS] + [((0,), (number,)) for number in NO_WHOLE_NUMBERS]
    return wrong


def no_done(many):
    """Things of many kinds that are no list of weighings that were done with so many things."""
    weighing = ((0,), (1,))
    good = (weighing, 1)
    wrong = list(NO_LISTS) + [(good,), {good}, {good: 1}, iter([good]), TouchyList([good]), good, [weighing]]
    wrong += [[(weighing, number) for number in (-1, 0, 1) * 7], [good] * 20 + [None], [good] * 21, [good] * 1000]
    wrong += [[good, thing] for thing in NO_TUPLES]
    wrong += [[list(good)], [(weighing,)], [()], [(weighing, 1, 1)], [(1, weighing)], [((0,), (1,), 1)]]
    wrong += [[(weighing, number)] for number in NO_OUTCOMES] + [[(thing, 0), good] for thing in no_weighings(many)]
    return wrong
