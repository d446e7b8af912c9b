"""Point 5, and the interface "panplan/opening.py"."""

import unittest
from itertools import permutations

from panplan.errors import BadDone, PanError
from panplan.opening import still_open
from samples import COUNTS, all_cases, all_weighings, drawn_cases, drawn_done, no_done, one_apart, outcome

FIRST = ((0,), (1,))


def turned(done):
    return [((right, left), -number) for (left, right), number in done]


class StillOpen(unittest.TestCase):
    def test_nothing_done(self):
        for many in COUNTS:
            for cases in drawn_cases(many, 20):
                told = still_open(many, cases, [])
                self.assertIs(type(told), list)
                self.assertEqual(told, cases)

    def test_one_weighing(self):
        heavier = [(1, 0, 0), (0, 1, 0), (0, 0, 1)]
        self.assertEqual(still_open(3, heavier, [(FIRST, 1)]), [(1, 0, 0)])
        self.assertEqual(still_open(3, heavier, [(FIRST, -1)]), [(0, 1, 0)])
        self.assertEqual(still_open(3, heavier, [(FIRST, 0)]), [(0, 0, 1)])

    def test_a_weighing_that_does_not_lead(self):
        cases = one_apart(4, 1, -1)
        self.assertEqual(
            still_open(4, cases, [(((2, 3), (0, 1)), 1)]), [(0, 0, 1, 0), (0, 0, 0, 1), (-1, 0, 0, 0), (0, -1, 0, 0)]
        )
        self.assertEqual(still_open(4, cases, [(((3,), (0,)), -1)]), [(1, 0, 0, 0), (0, 0, 0, -1)])

    def test_the_order_is_the_cases_order(self):
        for order in permutations([(1, 0, 0), (0, -1, 0), (1, -1, 0), (0, 1, 0)]):
            expected = [case for case in order if case != (0, 1, 0)]
            self.assertEqual(still_open(3, list(order), [(FIRST, 1)]), expected)

    def test_each_weighing_counts(self):
        cases = all_cases(2) + []
        self.assertEqual(still_open(2, cases, [(FIRST, 0)]), [(-1, -1), (0, 0), (1, 1)])
        done = [(((0,), (1,)), 1), (((1,), (2,)), 1), (((0, 3), (1, 2)), 1)]
        cases = [(1, 0, -1, 0), (1, 0, -1, -1), (0, 0, -1, 1), (1, 0, 1, 1), (0, -1, 0, 0), (1, 0, -1, 1)]
        self.assertEqual(still_open(4, cases, done), [(1, 0, -1, 0), (1, 0, -1, -1), (1, 0, -1, 1)])
        self.assertEqual(still_open(4, cases, done[:1]), [case for case in cases if case != (0, 0, -1, 1)])
        self.assertEqual(still_open(4, cases, done[1:2]), cases[:3] + cases[5:])

    def test_weighings_that_do_not_go_together(self):
        self.assertEqual(still_open(2, [(1, 0), (0, 1), (0, 0)], [(FIRST, 1), (FIRST, 0)]), [])
        self.assertEqual(still_open(2, [(1, 0), (0, 1), (0, 0)], [(FIRST, 1), (((1,), (0,)), 1)]), [])
        self.assertEqual(still_open(5, one_apart(5, 1), [(((0, 1), (2, 3)), 0), (((0, 1), (2, 4)), 0)]), [])

    def test_alike_ones_and_turned_about_ones(self):
        cases = one_apart(5, 1, -1)
        once = still_open(5, cases, [(((0, 1), (2, 3)), 1)])
        self.assertEqual(once, [cases[0], cases[1], cases[7], cases[8]])
        for done in ([(((0, 1), (2, 3)), 1)] * 2, [(((0, 1), (2, 3)), 1)] * 20, [(((2, 3), (0, 1)), -1)],
                     [(((0, 1), (2, 3)), 1), (((2, 3), (0, 1)), -1)] * 10):
            self.assertEqual(still_open(5, cases, done), once)

    def test_twenty_weighings(self):
        for many in COUNTS:
            weighings = (all_weighings(many) * 10)[:20]
            case = tuple(range(-1, many - 1))[:2] + (1,) * (many - 2)
            done = [(weighing, outcome(weighing, case)) for weighing in weighings]
            told = still_open(many, [(0,) * many, case], done)
            self.assertEqual(told, [case])
            # Only the last one goes wrong.
            weighing, number = done[19]
            done[19] = (weighing, number + 1 if number < 1 else 0)
            self.assertNotIn(case, still_open(many, [(0,) * many, case], done))

    def test_the_same_by_another_way_in_any_order(self):
        for many in COUNTS:
            for cases in drawn_cases(many, 30):
                for done in drawn_done(many, cases, 5):
                    expected = [case for case in cases if all(outcome(step, case) == number for step, number in done)]
                    self.assertEqual(still_open(many, cases, done), expected)
                    self.assertEqual(still_open(many, cases, done[::-1]), expected)
                    self.assertEqual(still_open(many, cases, turned(done)), expected)

    def test_each_weighing_with_each_outcome(self):
        for many in COUNTS:
            cases = all_cases(many)[:5] + all_cases(many)[-4:]
            cases = [case for place, case in enumerate(cases) if case not in cases[:place]]
            for weighing in all_weighings(many):
                for number in (-1, 0, 1):
                    expected = [case for case in cases if outcome(weighing, case) == number]
                    self.assertEqual(still_open(many, cases, [(weighing, number)]), expected)


class NoDone(unittest.TestCase):
    def test_what_is_no_list_of_weighings_that_were_done(self):
        for many in COUNTS:
            cases = [(0,) * many, (1,) + (0,) * (many - 1)]
            for place, done in enumerate(no_done(many)):
                with self.subTest(many=many, place=place):
                    with self.assertRaises(BadDone) as caught:
                        still_open(many, cases, done)
                    self.assertTrue(str(caught.exception))

    def test_a_weighing_of_more_things(self):
        for many in (2, 3, 4):
            cases = [(0,) * many]
            for weighing in all_weighings(many + 1):
                if weighing in all_weighings(many):
                    self.assertEqual(still_open(many, cases, [(weighing, 0)]), cases)
                else:
                    with self.assertRaises(BadDone):
                        still_open(many, cases, [(weighing, 0)])

    def test_a_wrong_one_in_any_place(self):
        good = (FIRST, 0)
        for place in range(20):
            for wrong in ((FIRST, 2), (FIRST, True), [FIRST, 0], (FIRST,), None):
                with self.assertRaises(BadDone):
                    still_open(2, [(0, 0)], [good] * place + [wrong] + [good] * (19 - place))

    def test_a_wrong_one_where_nothing_is_open_any_more(self):
        done = [(FIRST, 1), (FIRST, 0), (FIRST, -1)]
        self.assertEqual(still_open(2, [(0, 1)], done), [])
        with self.assertRaises(BadDone):
            still_open(2, [(0, 1)], done + [(FIRST, None)])


class Throughout(unittest.TestCase):
    def test_nothing_is_changed_and_nothing_kept(self):
        cases = one_apart(3, 1, -1)
        done = [(FIRST, 1)]
        first = still_open(3, cases, done)
        self.assertEqual(cases, one_apart(3, 1, -1))
        self.assertEqual(done, [(FIRST, 1)])
        self.assertEqual(first, [(1, 0, 0), (0, -1, 0)])
        cases.reverse()
        done.append((FIRST, 0))
        self.assertEqual(first, [(1, 0, 0), (0, -1, 0)])
        self.assertEqual(still_open(3, cases, done), [])
        self.assertEqual(still_open(3, cases, [(FIRST, 1)]), [(0, -1, 0), (1, 0, 0)])

    def test_what_is_told_is_the_askers_own(self):
        cases = [(0, 1), (1, 0)]
        for done in ([], [(FIRST, -1)]):
            first = still_open(2, cases, done)
            expected = list(first)
            self.assertIsNot(first, cases)
            first.clear()
            self.assertEqual(cases, [(0, 1), (1, 0)])
            self.assertEqual(still_open(2, cases, done), expected)

    def test_what_is_refused_is_as_it_was(self):
        inner = [FIRST, 1]
        done = [(FIRST, 1), inner]
        with self.assertRaises(PanError):
            still_open(2, [(0, 1)], done)
        self.assertEqual(done, [(FIRST, 1), [FIRST, 1]])
        self.assertIs(done[1], inner)


if __name__ == "__main__":
    unittest.main()
