"""The search: how few weighings tell some cases, and what shows that fewer don't."""

from panplan.holds import are_too_many
from panplan.pans import leading, outcomes_of

SIGNS = (-1, 0, 1)


class Search:
    """What is to be found out of some cases, of which no two are alike on the scales.

    Its methods take some of the cases as a tuple of their places in the list, rising.
    """

    def __init__(self, many, cases):
        self.cases = cases
        self.weighings = leading(many)
        self.outcomes = outcomes_of(self.weighings, cases)
        self.first_steps = {}
        self.found_holds = {}

    def parts(self, at, some):
        """List the three tuples of some cases in which the weighing at a place comes to -1, to 0 and to 1."""
        signs = self.outcomes[at]
        return [tuple([place for place in some if signs[place] == sign]) for sign in SIGNS]

    def can_tell(self, some, number):
        """Tell whether so many weighings can tell some cases, perhaps none."""
        return len(some) <= 1 or self.first_step(some, number) is not None

    def can_tell_each(self, parts, number):
        """Tell whether so many weighings can tell each of some parts."""
        for part in parts:
            if not self.can_tell(part, number):
                return False
        return True

    def first_step(self, some, number):
        """Tell the place of the first weighing by which so many can tell two cases or more, or None."""
        if are_too_many(some, number):
            return None
        key = (some, number)
        if key not in self.first_steps:
            self.first_steps[key] = self.find_step(some, number)
        return self.first_steps[key]

    def find_step(self, some, number):
        """Search for what first_step tells."""
        for at in range(len(self.weighings)):
            if self.can_tell_each(self.parts(at, some), number - 1):
                return at
        return None

    def least(self, some):
        """Tell the least length of a plan for some cases."""
        number = 0
        while not self.can_tell(some, number):
            number = number + 1
        return number

    def plan(self, some):
        """Make a plan of the least length for one case or more."""
        if len(some) == 1:
            return ("told", self.cases[some[0]])
        at = self.first_step(some, self.least(some))
        parts = [self.plan(part) if part else None for part in self.parts(at, some)]
        return ("weigh", self.weighings[at], tuple(parts))

    def hold(self, some, number):
        """Make a hold of some cases that so many weighings can't tell, at this number."""
        if are_too_many(some, number):
            return ("many",)
        key = (some, number)
        if key not in self.found_holds:
            rows = [self.hold_row(at, some, number - 1) for at in range(len(self.weighings))]
            self.found_holds[key] = ("each", tuple(rows))
        return self.found_holds[key]

    def hold_row(self, at, some, number):
        """Make the row of a hold for the weighing at a place, with a hold at a number."""
        parts = self.parts(at, some)
        untold = [(len(part), sign) for part, sign in zip(parts, SIGNS) if not self.can_tell(part, number)]
        # The hold of a greater part is mostly the shorter one.
        _, sign = max(untold)
        return (sign, self.hold(parts[sign + 1], number))
