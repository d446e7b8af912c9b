"""Cases: what may be so of the things on the scales."""

from panplan.errors import BadCases, BadCount
from panplan.kinds import is_sign, is_tuple_of, is_whole

FEWEST_THINGS = 2
MOST_THINGS = 5
MOST_CASES = 12


def need_count(many):
    """Refuse with BadCount what is no count of things."""
    # The message does not show what was handed in: of a very great number, or of
    # an object of some class, Python may refuse to make a text.
    if not is_whole(many) or not FEWEST_THINGS <= many <= MOST_THINGS:
        raise BadCount("a count of things is a whole number from 2 to 5")


def is_case(many, thing):
    """Tell whether a thing, any thing, is a case of so many things."""
    return is_tuple_of(many, thing) and all(is_sign(number) for number in thing)


def need_cases(many, cases):
    """Refuse what is no count of things, then what is no list of cases of so many."""
    need_count(many)
    if type(cases) is not list or not 1 <= len(cases) <= MOST_CASES:
        raise BadCases("cases are a list of 1 to 12")
    if not all(is_case(many, case) for case in cases):
        raise BadCases("a case is a tuple of 1, -1 or 0 for each thing")
    if len(set(cases)) < len(cases):
        raise BadCases("no case is told twice")
