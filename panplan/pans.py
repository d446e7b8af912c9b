"""Weighings: what is laid in the two pans, and what that comes to."""

from itertools import combinations

from panplan.cases import need_count
from panplan.kinds import is_tuple_of, is_whole


def leading(many):
    """List all weighings of so many things that lead, in the order of tuples."""
    need_count(many)
    found = []
    for size in range(1, many // 2 + 1):
        found.extend(leading_of_size(many, size))
    return sorted(found)


def leading_of_size(many, size):
    """List the weighings that lead and have so many things in each pan."""
    pans = list(combinations(range(many), size))
    # A pan rises, so its first thing is its least one.
    return [(left, right) for left in pans for right in pans if left[0] < right[0] and are_apart(left, right)]


def are_apart(left, right):
    """Tell whether no thing is in both pans."""
    return not any(thing in right for thing in left)


def is_weighing(many, thing):
    """Tell whether a thing, any thing, is a weighing of so many things."""
    if not is_tuple_of(2, thing):
        return False
    left, right = thing
    if not is_pan(many, left) or not is_pan(many, right):
        return False
    return len(left) == len(right) and are_apart(left, right)


def is_pan(many, thing):
    """Tell whether a thing, any thing, is a rising tuple of one or more of so many things."""
    if type(thing) is not tuple or len(thing) == 0:
        return False
    if not all(is_whole(number) and 0 <= number < many for number in thing):
        return False
    return all(low < high for low, high in zip(thing, thing[1:]))


def came(weighing, case):
    """Tell what a weighing comes to in a case: 1, -1 or 0."""
    left, right = weighing
    more = summed(left, case) - summed(right, case)
    if more > 0:
        return 1
    if more < 0:
        return -1
    return 0


def summed(pan, case):
    """Sum up a case's numbers of the things in a pan."""
    return sum(case[thing] for thing in pan)


def parted(weighing, cases):
    """List the three lists of the cases in which a weighing comes to -1, to 0 and to 1."""
    parts = [[], [], []]
    for case in cases:
        parts[came(weighing, case) + 1].append(case)
    return parts


def outcomes_of(weighings, cases):
    """List for each weighing the list of what it comes to in each of the cases."""
    return [[came(weighing, case) for case in cases] for weighing in weighings]
