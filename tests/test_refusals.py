"""Point 2 and the refusals that all functions that take cases have in common, and their order."""

import unittest

from panplan.cases import need_cases
from panplan.errors import BadCases, BadCount, BadDone, PanError
from panplan.holds import is_hold
from panplan.opening import still_open
from panplan.plans import is_plan
from panplan.telling import least, told
from samples import COUNTS, NO_COUNTS, Touchy, all_cases, no_cases

REFUSALS = (BadCount, BadCases, BadDone)
TAKERS = (
    ("need_cases", lambda many, cases: need_cases(many, cases)),
    ("still_open", lambda many, cases: still_open(many, cases, [])),
    ("still_open, wrong", lambda many, cases: still_open(many, cases, Touchy())),
    ("still_open, wrong in it", lambda many, cases: still_open(many, cases, [(((0,), (0,)), 2)] * 21)),
    ("is_plan", lambda many, cases: is_plan(many, cases, ("told", (0, 0)))),
    ("is_plan, wrong", lambda many, cases: is_plan(many, cases, Touchy())),
    ("is_hold", lambda many, cases: is_hold(many, cases, 0, ("many",))),
    ("is_hold, wrong", lambda many, cases: is_hold(many, cases, 0, Touchy())),
    ("is_hold, wrong number", lambda many, cases: is_hold(many, cases, 21, None)),
    ("is_hold, no number", lambda many, cases: is_hold(many, cases, Touchy(), None)),
    ("told", lambda many, cases: told(many, cases, [])),
    ("told, wrong", lambda many, cases: told(many, cases, None)),
    ("told, wrong in it", lambda many, cases: told(many, cases, [None])),
    ("least", lambda many, cases: least(many, cases, [])),
    ("least, wrong", lambda many, cases: least(many, cases, ())),
    ("least, wrong in it", lambda many, cases: least(many, cases, [[((0,), (1,)), 1]])),
)


class InCommon(unittest.TestCase):
    def refuse(self, refusal, take, many, cases):
        with self.assertRaises(refusal) as caught:
            take(many, cases)
        error = caught.exception
        self.assertTrue(str(error))
        self.assertIsInstance(error, PanError)
        self.assertIsInstance(error, ValueError)
        self.assertEqual([kind for kind in REFUSALS if isinstance(error, kind)], [refusal])

    def test_no_count(self):
        for name, take in TAKERS:
            for place, many in enumerate(NO_COUNTS):
                with self.subTest(name=name, place=place):
                    self.refuse(BadCount, take, many, [(0, 1)])

    def test_no_count_is_told_ahead_of_all_else(self):
        for name, take in TAKERS:
            for place, many in enumerate(NO_COUNTS):
                with self.subTest(name=name, place=place):
                    for cases in (None, [], (), [(0, 1), (0, 1)], [(0,)] * 13, [Touchy()], Touchy(), [()], [(0,) * 6]):
                        self.refuse(BadCount, take, many, cases)

    def test_no_cases(self):
        for name, take in TAKERS:
            for many in COUNTS:
                for place, cases in enumerate(no_cases(many)):
                    with self.subTest(name=name, many=many, place=place):
                        self.refuse(BadCases, take, many, cases)

    def test_cases_of_another_count(self):
        for name, take in TAKERS:
            for many in COUNTS:
                for other in COUNTS:
                    if other != many:
                        self.refuse(BadCases, take, many, all_cases(other)[:3])

    def test_what_is_refused_is_as_it_was(self):
        for name, take in TAKERS:
            inner = [0, 1]
            for cases in ([(0, 1), (0, 1)], [(1, 1), inner], [(1, 2), (1, 1)], [(0, 0, 0)], all_cases(3)):
                before = list(cases)
                self.refuse(BadCases, take, 2, cases)
                self.assertEqual(cases, before)
            self.assertEqual(inner, [0, 1])


class OtherRefusals(unittest.TestCase):
    def test_a_holds_number_is_a_bad_count_and_nothing_else(self):
        for number in (-1, 21, True, None, "0", 0.0):
            with self.assertRaises(BadCount) as caught:
                is_hold(2, [(0, 1)], number, ("many",))
            self.assertEqual([kind for kind in REFUSALS if isinstance(caught.exception, kind)], [BadCount])

    def test_what_was_done_is_bad_done_and_nothing_else(self):
        for function in (still_open, told, least):
            for done in (None, (), [None], [(((0,), (1,)), 2)], [(((0,), (1,)), 0)] * 21):
                with self.assertRaises(BadDone) as caught:
                    function(2, [(0, 1)], done)
                self.assertEqual([kind for kind in REFUSALS if isinstance(caught.exception, kind)], [BadDone])
                self.assertIsInstance(caught.exception, PanError)

    def test_what_takes_any_thing_refuses_none(self):
        for thing in (None, 0, (), [], Touchy(), "told", ("told", Touchy()), ("many", Touchy()), (Touchy(), ())):
            self.assertIs(is_plan(2, [(0, 1)], thing), False)
            self.assertIs(is_hold(2, [(0, 1)], 0, thing), False)
            self.assertIs(is_hold(2, [(0, 1)], 20, thing), False)


if __name__ == "__main__":
    unittest.main()
