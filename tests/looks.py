"""Looks at what the program tells, written apart from the program's own."""

from functools import cache

from samples import all_weighings, outcome


@cache
def look_leading(many):
    return [(left, right) for left, right in all_weighings(many) if min(left + right) in left]


def parts_by(weighing, cases):
    return {sign: [case for case in cases if outcome(weighing, case) == sign] for sign in (-1, 0, 1)}


def look_plan(many, cases, plan):
    """Whether a plan, of tuples, words and numbers throughout, is one for these cases."""
    if type(plan) is not tuple or plan[0] not in ("told", "weigh"):
        return False
    if plan[0] == "told":
        return list(plan[1:]) == cases
    word, weighing, parts = plan
    if weighing not in all_weighings(many) or type(parts) is not tuple or len(parts) != 3:
        return False
    for sign, some in parts_by(weighing, cases).items():
        part = parts[sign + 1]
        if not some and part is not None or some and (part is None or not look_plan(many, some, part)):
            return False
    return True


def look_length(plan):
    if plan[0] == "told":
        return 0
    return 1 + max(look_length(part) for part in plan[2] if part is not None)


def look_hold(many, cases, number, hold):
    """Whether a hold, of tuples, words and numbers throughout, is one of these cases at a number."""
    if hold == ("many",):
        return len(cases) > 3 ** number
    if type(hold) is not tuple or len(hold) != 2 or hold[0] != "each" or type(hold[1]) is not tuple or number < 1:
        return False
    weighings = look_leading(many)
    if len(hold[1]) != len(weighings):
        return False
    for weighing, row in zip(weighings, hold[1]):
        if type(row) is not tuple or len(row) != 2 or row[0] not in (-1, 0, 1):
            return False
        if not look_hold(many, parts_by(weighing, cases)[row[0]], number - 1, row[1]):
            return False
    return True


def look_alike(many, one, other):
    return all(outcome(weighing, one) == outcome(weighing, other) for weighing in all_weighings(many))


def has_alike(many, cases):
    return any(one != other and look_alike(many, one, other) for one in cases for other in cases)


def only_own_kinds(thing):
    """Whether a thing is made of tuples, texts, whole numbers and None alone."""
    if type(thing) is tuple:
        return all(only_own_kinds(part) for part in thing)
    return thing is None or type(thing) in (str, int)


def tried_least(many, cases):
    """The least length of a plan, by trying each weighing, whether it leads or not; None where there is no plan."""
    if has_alike(many, cases):
        return None
    weighings = all_weighings(many)
    tried = {}

    def tells(some, number):
        if len(some) < 2:
            return True
        if number == 0:
            return False
        if (some, number) not in tried:
            tried[some, number] = any(
                all(tells(tuple(part), number - 1) for part in parts_by(weighing, some).values())
                for weighing in weighings
            )
        return tried[some, number]

    return next(number for number in range(12) if tells(tuple(cases), number))
