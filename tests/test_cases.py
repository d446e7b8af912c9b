"""Points 1 and 2, and the interface "panplan/cases.py"."""

import unittest

from panplan.cases import need_cases
from panplan.errors import BadCases, BadCount, PanError
from samples import (
    COUNTS, NO_COUNTS, NO_WHOLE_NUMBERS, VERY_GREAT, EqualToAll, Plain, Touchy, TouchyList, TouchyTuple, all_cases,
)

NO_CASE_NUMBERS = NO_WHOLE_NUMBERS + (2, -2, 3, 100, VERY_GREAT, -VERY_GREAT)
NO_LISTS = (
    ((0, 1),), (), None, "", "01", b"01", 0, 1, 2, 1.0, True, False, {}, {(0, 1): 1}, {(0, 1)}, frozenset({(0, 1)}),
    range(2), iter([(0, 1)]), Plain(), EqualToAll(), Touchy(), TouchyList([(0, 1)]), TouchyList(), list,
)
NO_TUPLES = (
    None, 0, 1, -1, True, "01", "0", b"01", [0, 1], [], {}, {0: 1, 1: 0}, {0, 1}, frozenset({0, 1}), range(2), 1.5,
    Plain(), EqualToAll(), Touchy(), TouchyTuple((0, 1)), TouchyTuple(),
)


class Accepted(unittest.TestCase):
    def accept(self, many, cases):
        before = list(cases)
        self.assertIs(need_cases(many, cases), None)
        self.assertEqual(cases, before)

    def test_one_case(self):
        for many in COUNTS:
            for case in all_cases(many):
                self.accept(many, [case])

    def test_all_numbers_of_cases_up_to_twelve(self):
        for many in COUNTS:
            cases = all_cases(many)[:12]
            for number in range(1, len(cases) + 1):
                self.accept(many, cases[:number])

    def test_twelve_cases(self):
        for many in (3, 4, 5):
            self.accept(many, all_cases(many)[-12:])

    def test_all_nine_cases_of_two_things(self):
        self.accept(2, all_cases(2))

    def test_any_order(self):
        for many in COUNTS:
            cases = all_cases(many)[-12:]
            self.accept(many, cases[::-1])
            self.accept(many, cases[5:] + cases[:5])
            self.accept(many, cases[::2] + cases[1::2])

    def test_cases_that_are_near_one_another(self):
        self.accept(3, [(0, 0, 0), (0, 0, 1), (0, 0, -1), (0, 1, 0), (1, 0, 0), (-1, 0, 0), (1, 1, 1), (-1, -1, -1)])


class NoCount(unittest.TestCase):
    def test_what_is_no_count(self):
        for place, many in enumerate(NO_COUNTS):
            with self.subTest(place=place, kind=type(many).__name__):
                with self.assertRaises(BadCount):
                    need_cases(many, [(0, 1)])

    def test_each_neighbour_of_a_count_with_cases_of_so_many(self):
        for many, case in ((0, ()), (1, (1,)), (6, (0, 0, 0, 0, 0, 1)), (True, (1,)), (2.0, (0, 1))):
            with self.assertRaises(BadCount):
                need_cases(many, [case])

    def test_the_count_is_told_first(self):
        for many in NO_COUNTS:
            for cases in (None, [], (), [(2, 2)], [(0, 1), (0, 1)], [(0,)] * 13, [Touchy()], Touchy()):
                with self.assertRaises(BadCount):
                    need_cases(many, cases)


class NoCases(unittest.TestCase):
    def refuse(self, many, cases):
        with self.assertRaises(BadCases):
            need_cases(many, cases)

    def test_no_list(self):
        for place, cases in enumerate(NO_LISTS):
            with self.subTest(place=place, kind=type(cases).__name__):
                self.refuse(2, cases)

    def test_empty(self):
        for many in COUNTS:
            self.refuse(many, [])

    def test_too_many(self):
        for many in (3, 4, 5):
            self.refuse(many, all_cases(many)[:13])
            self.refuse(many, all_cases(many))
        self.refuse(2, [(0, 1)] * 100000)

    def test_told_twice(self):
        for many in COUNTS:
            one, other, third = all_cases(many)[:3]
            self.refuse(many, [one, one])
            self.refuse(many, [one, other, one])
            self.refuse(many, [third, one, other, other])
            self.refuse(many, [one, other, third, tuple(list(one))])
        cases = all_cases(5)[:11]
        for place in range(11):
            self.refuse(5, cases + [cases[place]])
            self.refuse(5, [cases[place]] + cases)

    def test_no_tuple(self):
        for place, case in enumerate(NO_TUPLES):
            with self.subTest(place=place, kind=type(case).__name__):
                self.refuse(2, [case])
                self.refuse(2, [case, (1, 1)])
                self.refuse(2, [(1, 1), (1, 0), case])

    def test_too_short_or_too_long(self):
        for many in COUNTS:
            good = all_cases(many)[0]
            for length in (0, 1, many - 1, many + 1, many + 2, 1000):
                if length != many:
                    self.refuse(many, [(0,) * length])
                    self.refuse(many, [good, (0,) * length])

    def test_what_is_no_number_of_a_case_in_any_place(self):
        for many in COUNTS:
            good = (0,) * (many - 1) + (1,)
            for kind, wrong in enumerate(NO_CASE_NUMBERS):
                for place in range(many):
                    bad = (0,) * place + (wrong,) + (0,) * (many - place - 1)
                    with self.subTest(many=many, kind=kind, place=place):
                        self.refuse(many, [bad])
                        self.refuse(many, [bad, good])
                        self.refuse(many, [good, bad])

    def test_a_list_that_holds_itself(self):
        cases = [(0, 1)]
        cases.append(cases)
        self.refuse(2, cases)
        self.refuse(2, [(0, cases)])

    def test_a_refused_list_is_as_it_was(self):
        inner = [0, 1]
        for cases in ([(0, 1), (0, 1)], [(1, 1), inner], [(1, 2), (1, 1)], [(0, 0, 0)], all_cases(3)):
            before = list(cases)
            self.refuse(2, cases)
            self.assertEqual(cases, before)
        self.assertEqual(inner, [0, 1])


class Throughout(unittest.TestCase):
    def test_nothing_is_kept(self):
        cases = [(0, 1), (1, 0)]
        need_cases(2, cases)
        cases.append((0, 1))
        with self.assertRaises(BadCases):
            need_cases(2, cases)
        cases.pop()
        self.assertIs(need_cases(2, cases), None)

    def test_a_refusal_is_a_pan_error_with_some_words(self):
        for many, cases in ((VERY_GREAT, []), (Touchy(), []), (2, Touchy()), (2, [Touchy()]), (2, [(0, VERY_GREAT)])):
            with self.assertRaises(PanError) as caught:
                need_cases(many, cases)
            self.assertTrue(str(caught.exception))

    def test_defined_in_its_file(self):
        self.assertEqual(need_cases.__module__, "panplan.cases")


if __name__ == "__main__":
    unittest.main()
