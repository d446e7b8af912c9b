"""Point 6, and the interface "panplan/plans.py"."""

import unittest
from itertools import permutations

from looks import look_plan
from panplan.plans import is_plan, length_of, walked
from samples import (
    COUNTS, NO_LISTS, NO_OUTCOMES, NO_TUPLES, VERY_GREAT, EqualToAll, Plain, Touchy, TouchyTuple, all_cases,
    all_weighings, drawn_cases, no_weighings, one_apart, outcome,
)

FIRST = ((0,), (1,))
A, B, C = (1, 0, 0), (0, 1, 0), (0, 0, 1)
HEAVIER = [A, B, C]
PLAN = ("weigh", FIRST, (("told", B), ("told", C), ("told", A)))
LONGER = ("weigh", FIRST, (
    ("told", B), ("weigh", ((1,), (0,)), (None, ("told", C), None)), ("weigh", ((2,), (1,)), (None, ("told", A), None))
))
EIGHT = one_apart(4, 1, -1)


class StrOfItsOwn(str):
    """A text of a kind of its own."""


NO_WORDS = (
    None, True, 0, 1, "", "Told", "Weigh", "told ", "weigh ", "tol", "weig", "many", "each", "none", "plan", b"told",
    b"weigh", ["told"], ("weigh",), Plain(), EqualToAll(), Touchy(), StrOfItsOwn("told"), StrOfItsOwn("weigh"),
)


def some_plan(cases, weighings):
    """A plan that takes the first weighing that parts the cases, whether it is a long one or not."""
    if len(cases) == 1:
        return ("told", cases[0])
    for weighing in weighings:
        parts = [[case for case in cases if outcome(weighing, case) == sign] for sign in (-1, 0, 1)]
        if cases not in parts:
            return ("weigh", weighing, tuple(some_plan(part, weighings) if part else None for part in parts))
    raise LookupError("two cases are alike")


def some_plans(many, times):
    """Cases, no two of them alike, with plans for them by weighings in several orders."""
    weighings = all_weighings(many)
    for place, drawn in enumerate(drawn_cases(many, times)):
        outcomes = [[outcome(weighing, case) for weighing in weighings] for case in drawn]
        cases = [case for at, case in enumerate(drawn) if outcomes[at] not in outcomes[:at]]
        turn = place % len(weighings)
        yield cases, some_plan(cases, weighings[turn:] + weighings[:turn])


class IsPlan(unittest.TestCase):
    def expect(self, many, cases, thing, expected):
        self.assertIs(is_plan(many, cases, thing), expected)

    def refute(self, many, cases, things):
        for place, thing in enumerate(things):
            with self.subTest(place=place):
                self.expect(many, cases, thing, False)

    def test_one_case(self):
        for many in COUNTS:
            for case in all_cases(many):
                self.expect(many, [case], ("told", case), True)
                self.expect(many, [case], ("told", tuple(list(case))), True)
        self.refute(3, [A], [("told", B), ("told",), ("told", A, A), ("told", A, None), ("told", None), ("told", [A])])

    def test_told_only_where_a_case_is_alone(self):
        self.refute(3, HEAVIER, [("told", A), ("told", B), ("told", C), ("told", A, B, C), ("told", tuple(HEAVIER))])
        self.refute(3, [A, B], [("told", A), ("told", B), ("weigh", ((0,), (2,)), (("told", B), None, ("told", A)))])

    def test_three_cases_in_any_order(self):
        for cases in permutations(HEAVIER):
            self.expect(3, list(cases), PLAN, True)
            self.expect(3, list(cases), LONGER, True)

    def test_a_plan_for_other_cases(self):
        for cases in ([A], [A, B], [B, C], [A, C], [A, B, (0, 0, 0)], [(0, 0, 0)], HEAVIER + [(0, 0, 0)],
                      HEAVIER + [(1, 0, 1)], HEAVIER + [(1, 1, 0)], HEAVIER + [(-1, 0, 0)], [(-1, 0, 0), B, C]):
            self.expect(3, cases, PLAN, False)

    def test_parts_in_their_order(self):
        for parts in permutations(PLAN[2]):
            self.expect(3, HEAVIER, ("weigh", FIRST, parts), parts == PLAN[2])

    def test_none_just_where_there_is_no_case(self):
        self.expect(3, [A, B], ("weigh", FIRST, (("told", B), None, ("told", A))), True)
        self.expect(3, [A, C], ("weigh", FIRST, (None, ("told", C), ("told", A))), True)
        self.expect(3, [A], ("weigh", FIRST, (None, None, ("told", A))), True)
        self.expect(3, [B], ("weigh", FIRST, (("told", B), None, None)), True)
        self.refute(3, [A, B], [
            ("weigh", FIRST, (("told", B), ("told", C), ("told", A))),
            ("weigh", FIRST, (("told", B), ("told", A), None)), ("weigh", FIRST, (None, None, ("told", A))),
            ("weigh", FIRST, (("told", B), None, None)),
            ("weigh", FIRST, (None, None, None)), None,
        ])
        for place in range(3):
            for wrong in (None,) + NO_TUPLES:
                parts = tuple(wrong if at == place else PLAN[2][at] for at in range(3))
                self.expect(3, HEAVIER, ("weigh", FIRST, parts), False)
                if wrong is not None:
                    parts = tuple(wrong if at == place else None for at in range(3))
                    self.refute(3, [A], [("weigh", FIRST, parts)])
                    self.refute(3, [B, A], [("weigh", FIRST, (("told", B), wrong, ("told", A)))])

    def test_a_weighing_that_does_not_lead(self):
        self.expect(3, HEAVIER, ("weigh", ((1,), (0,)), (("told", A), ("told", C), ("told", B))), True)
        self.expect(3, HEAVIER, ("weigh", ((1,), (0,)), PLAN[2]), False)
        for many in COUNTS:
            case = (1,) * (many - 1) + (-1,)
            for weighing in all_weighings(many):
                parts = [None, None, None]
                parts[outcome(weighing, case) + 1] = ("told", case)
                self.expect(many, [case], ("weigh", weighing, tuple(parts)), True)
                self.expect(many, [case], ("weigh", weighing, tuple(parts[1:] + parts[:1])), False)

    def test_weighings_that_part_nothing(self):
        thing = PLAN
        for _ in range(28):
            thing = ("weigh", ((1,), (2,)), (None, thing, None))
            self.expect(3, [(1, 1, 1), (1, 0, 0)], thing, False)
        thing = ("told", A)
        for _ in range(29):
            thing = ("weigh", ((2,), (1,)), (None, thing, None))
            self.expect(3, [A], thing, True)
            self.expect(3, [B], thing, False)
            self.expect(3, [A, B], thing, False)

    def test_twelve_cases(self):
        cases = one_apart(5, 1, -1) + [(0, 0, 0, 0, 0), (1, 0, 0, 0, -1)]
        plan = some_plan(cases, all_weighings(5))
        self.assertEqual(len(cases), 12)
        self.expect(5, cases, plan, True)
        self.expect(5, cases[::-1], plan, True)
        self.expect(5, cases[:11], plan, False)
        self.expect(5, cases[:11] + [(1, 1, 1, 1, 1)], plan, False)

    def test_eight_cases_of_four_things(self):
        plan = some_plan(EIGHT, all_weighings(4))
        self.expect(4, EIGHT, plan, True)
        self.expect(4, EIGHT + [(0, 0, 0, 0)], plan, False)
        self.expect(4, EIGHT[1:], plan, False)

    def test_alike_cases_have_no_plan(self):
        self.refute(2, [(1, 0), (0, -1)], [
            ("told", (1, 0)), ("told", (0, -1)), ("weigh", FIRST, (None, None, ("told", (1, 0)))),
            ("weigh", FIRST, (None, ("told", (1, 0)), ("told", (0, -1)))),
            ("weigh", FIRST, (None, None, ("weigh", FIRST, (None, None, ("told", (0, -1)))))),
        ])

    def test_the_same_by_another_look(self):
        for many in COUNTS:
            plans = list(some_plans(many, 40))
            for cases, plan in plans:
                self.assertTrue(look_plan(many, cases, plan))
                self.expect(many, cases, plan, True)
                for others, other in plans[:10]:
                    self.expect(many, cases, other, look_plan(many, cases, other))

    def test_one_part_of_a_plan_made_wrong(self):
        for many in COUNTS:
            for cases, plan in some_plans(many, 12):
                for thing in made_wrong(plan):
                    self.expect(many, cases, thing, False)

    def test_any_thing(self):
        things = NO_LISTS + NO_OUTCOMES + NO_WORDS + (PLAN[1], list(PLAN), [("told", A)], TouchyTuple(PLAN), all_cases)
        self.refute(3, HEAVIER, things)
        self.refute(3, [A], things)

    def test_any_thing_for_a_word(self):
        self.refute(3, [A], [(word, A) for word in NO_WORDS + ("weigh",)])
        self.refute(3, HEAVIER, [(word, FIRST, PLAN[2]) for word in NO_WORDS + ("told",)])

    def test_any_thing_for_a_case(self):
        self.refute(3, [A], [("told", thing) for thing in NO_TUPLES + ((), (1, 0), (1, 0, 0, 0), (1, 0, 2), [1, 0, 0])])
        self.refute(3, [A], [("told", (number, 0, 0)) for number in NO_OUTCOMES])
        self.refute(3, [A], [("told", (1, number, 0)) for number in NO_OUTCOMES])

    def test_any_thing_for_a_weighing(self):
        for many in COUNTS:
            cases = [(1,) + (0,) * (many - 1), (0, 1) + (0,) * (many - 2)]
            parts = (("told", cases[1]), None, ("told", cases[0]))
            self.expect(many, cases, ("weigh", FIRST, parts), True)
            self.refute(many, cases, [("weigh", thing, parts) for thing in no_weighings(many)])

    def test_any_thing_for_the_parts(self):
        told = ("told", A)
        self.expect(3, [A], ("weigh", FIRST, (None, None, told)), True)
        self.refute(3, [A], [("weigh", FIRST, thing) for thing in NO_TUPLES + (
            (), (told,), (None, told), (None, None, None, told), (None, None, told, None), [None, None, told],
            {-1: None, 0: None, 1: told}, TouchyTuple((None, None, told)),
        )])

    def test_too_few_or_too_many_things_in_a_plan(self):
        self.refute(3, HEAVIER, [
            (), ("weigh",), ("weigh", FIRST), PLAN + (None,), PLAN + PLAN, PLAN[1:], ("weigh", FIRST) + PLAN[2],
            ("weigh",) + FIRST + (PLAN[2],), (PLAN,), ("plan",) + PLAN, ("plan", PLAN, None),
        ])

    def test_what_stands_deep_or_holds_itself(self):
        thing = A
        for _ in range(59):
            thing = ("weigh", FIRST, thing)
            self.expect(3, HEAVIER, thing, False)
        around = ["weigh", FIRST]
        around.append(around)
        self.refute(3, HEAVIER, [around, ("weigh", FIRST, around), ("weigh", FIRST, (around, around, around))])

    def test_nothing_is_changed_or_kept(self):
        cases = list(HEAVIER)
        self.expect(3, cases, PLAN, True)
        self.assertEqual(cases, HEAVIER)
        inner = ["told", A]
        thing = ("weigh", FIRST, (("told", B), ("told", C), inner))
        self.expect(3, cases, thing, False)
        self.assertEqual(inner, ["told", A])
        cases.append((0, 0, 0))
        self.expect(3, cases, PLAN, False)
        cases.pop()
        self.expect(3, cases, PLAN, True)


def made_wrong(plan):
    """Things that are a plan but for one place."""
    if plan[0] == "told":
        case = plan[1]
        yield ("told", tuple(0 if number else 1 for number in case))
        yield ("told", list(case))
        yield ["told", case]
        yield None
        return
    word, (left, right), parts = plan
    yield (word, (left, right), list(parts))
    yield (word, (right, right), parts)
    yield (word, (left, right), parts + (None,))
    for place, part in enumerate(parts):
        if part is None:
            yield (word, (left, right), parts[:place] + (("told", (0,) * 5),) + parts[place + 1:])
        else:
            for wrong in made_wrong(part):
                yield (word, (left, right), parts[:place] + (wrong,) + parts[place + 1:])


class LengthOf(unittest.TestCase):
    def expect(self, plan, expected):
        told = length_of(plan)
        self.assertIs(type(told), int)
        self.assertEqual(told, expected)

    def test_told(self):
        for many in COUNTS:
            self.expect(("told", (0,) * many), 0)

    def test_one_more_than_the_greatest_of_its_parts(self):
        self.expect(PLAN, 1)
        self.expect(LONGER, 2)
        for parts in permutations((LONGER, ("told", (1, 1, 1)), None)):
            self.expect(("weigh", FIRST, parts), 3)
        for parts in permutations((LONGER, PLAN, PLAN)):
            self.expect(("weigh", FIRST, parts), 3)
        for parts in permutations((("told", A), None, None)):
            self.expect(("weigh", FIRST, parts), 1)

    def test_a_plan_with_weighings_that_part_nothing(self):
        plan = ("told", A)
        for length in range(1, 400):
            plan = ("weigh", ((2,), (1,)), (None, plan, None))
            self.expect(plan, length)

    def test_the_longest_walk(self):
        for many in COUNTS:
            for cases, plan in some_plans(many, 30):
                self.expect(plan, max(len(walked(plan, case)) for case in cases))


class Walked(unittest.TestCase):
    def test_told(self):
        self.assertEqual(walked(("told", A), A), [])

    def test_one_weighing(self):
        self.assertEqual(walked(PLAN, A), [(FIRST, 1)])
        self.assertEqual(walked(PLAN, B), [(FIRST, -1)])
        self.assertEqual(walked(PLAN, C), [(FIRST, 0)])

    def test_in_order(self):
        self.assertEqual(walked(LONGER, A), [(FIRST, 1), (((2,), (1,)), 0)])
        self.assertEqual(walked(LONGER, B), [(FIRST, -1)])
        self.assertEqual(walked(LONGER, C), [(FIRST, 0), (((1,), (0,)), 0)])

    def test_each_walk_comes_to_its_case(self):
        for many in COUNTS:
            for cases, plan in some_plans(many, 30):
                for case in cases:
                    steps = walked(plan, case)
                    self.assertIs(type(steps), list)
                    part = plan
                    for step in steps:
                        self.assertIs(type(step), tuple)
                        weighing, sign = step
                        self.assertIs(type(sign), int)
                        self.assertEqual((part[0], part[1], outcome(part[1], case)), ("weigh", weighing, sign))
                        part = part[2][sign + 1]
                    self.assertEqual(part, ("told", case))

    def test_a_plan_with_weighings_that_part_nothing(self):
        plan = ("told", A)
        for length in range(1, 400):
            plan = ("weigh", ((2,), (1,)), (None, plan, None))
        self.assertEqual(walked(plan, A), [(((2,), (1,)), 0)] * 399)

    def test_told_anew_each_time(self):
        first = walked(LONGER, A)
        first.append(None)
        first[0] = "changed"
        self.assertEqual(walked(LONGER, A), [(FIRST, 1), (((2,), (1,)), 0)])


if __name__ == "__main__":
    unittest.main()
