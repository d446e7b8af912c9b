"""Holds: what shows that so many weighings or fewer don't tell some cases."""

from panplan.cases import need_cases
from panplan.errors import BadCount
from panplan.kinds import is_sign, is_tuple_of, is_whole, is_word
from panplan.pans import leading, outcomes_of

MOST_NUMBER = 20


def is_hold(many, cases, number, thing):
    """Tell whether a thing, any thing, is a hold of these cases at a number."""
    need_cases(many, cases)
    if not is_whole(number) or not 0 <= number <= MOST_NUMBER:
        raise BadCount("a hold's number is a whole number from 0 to 20")
    return is_hold_of(outcomes_of(leading(many), cases), list(range(len(cases))), number, thing)


def is_hold_of(outcomes, some, number, thing):
    """Tell whether a thing, any thing, is a hold of some cases, given by their places, at a number."""
    if is_tuple_of(1, thing):
        return is_word("many", thing[0]) and are_too_many(some, number)
    if number == 0 or not is_tuple_of(2, thing) or not is_word("each", thing[0]):
        return False
    rows = thing[1]
    if not is_tuple_of(len(outcomes), rows) or not all(is_row(row) for row in rows):
        return False
    for signs, (sign, part) in zip(outcomes, rows):
        left = [place for place in some if signs[place] == sign]
        if not is_hold_of(outcomes, left, number - 1, part):
            return False
    return True


def is_row(thing):
    """Tell whether a thing, any thing, is a tuple of what a weighing came to and of any thing."""
    return is_tuple_of(2, thing) and is_sign(thing[0])


def are_too_many(some, number):
    """Tell whether some cases are more than 3 ** number."""
    most = 1
    for _ in range(number):
        most = most * 3
    return len(some) > most
