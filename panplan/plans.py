"""Plans: what to weigh, and what then to weigh or to tell."""

from panplan.cases import is_case, need_cases
from panplan.kinds import is_tuple_of, is_word
from panplan.pans import came, is_weighing, parted


def is_plan(many, cases, thing):
    """Tell whether a thing, any thing, is a plan for these cases."""
    need_cases(many, cases)
    # A list of what is left to look at, not a recursion: with weighings that part
    # nothing, a plan for few cases may be a deep one.
    left = [(cases, thing)]
    while left:
        some, part = left.pop()
        if len(some) == 0:
            if part is not None:
                return False
        elif is_step(many, part):
            _, weighing, parts = part
            left.extend(list(zip(parted(weighing, some), parts)))
        elif not is_telling(many, some, part):
            return False
    return True


def is_step(many, thing):
    """Tell whether a thing, any thing, is a weighing with three parts, of which any may be any thing."""
    if not is_tuple_of(3, thing) or not is_word("weigh", thing[0]):
        return False
    return is_weighing(many, thing[1]) and is_tuple_of(3, thing[2])


def is_telling(many, cases, thing):
    """Tell whether a thing, any thing, tells the case that stands alone among the cases."""
    if not is_tuple_of(2, thing) or not is_word("told", thing[0]):
        return False
    return is_case(many, thing[1]) and cases == [thing[1]]


def length_of(plan):
    """Tell the length of a plan: the most weighings that are done by it."""
    length = 0
    level = parts_below([plan])
    while level:
        length = length + 1
        level = parts_below(level)
    return length


def parts_below(plans):
    """List the plans that are the parts of some plans."""
    return [part for plan in plans if plan[0] == "weigh" for part in plan[2] if part is not None]


def walked(plan, case):
    """List the weighings that are done by a plan in a case, in order, with what each comes to."""
    steps = []
    part = plan
    while part[0] == "weigh":
        _, weighing, parts = part
        sign = came(weighing, case)
        steps.append((weighing, sign))
        part = parts[sign + 1]
    return steps
