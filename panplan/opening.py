"""What is open: the cases that the weighings that were done leave."""

from panplan.cases import need_cases
from panplan.errors import BadDone
from panplan.kinds import is_sign, is_tuple_of
from panplan.pans import came, is_weighing

MOST_DONE = 20


def still_open(many, cases, done):
    """List the cases that are still open behind the weighings that were done, in the cases' order."""
    need_cases(many, cases)
    need_done(many, done)
    return [case for case in cases if agrees(done, case)]


def need_done(many, done):
    """Refuse with BadDone what is no list of weighings that were done with so many things."""
    if type(done) is not list or len(done) > MOST_DONE:
        raise BadDone("the weighings that were done are a list of up to 20")
    if not all(is_done(many, thing) for thing in done):
        raise BadDone("a weighing that was done is a tuple of a weighing and of 1, -1 or 0")


def is_done(many, thing):
    """Tell whether a thing, any thing, is a weighing that was done, with what it came to."""
    return is_tuple_of(2, thing) and is_weighing(many, thing[0]) and is_sign(thing[1])


def agrees(done, case):
    """Tell whether in a case each weighing that was done comes to what it came to."""
    return all(came(weighing, case) == sign for weighing, sign in done)
