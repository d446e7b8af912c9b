"""Points 1, 6, 7 and 8 over the whole, and the interface "panplan/telling.py"."""

import unittest
from itertools import combinations, permutations

from looks import has_alike, look_alike, look_hold, look_length, look_plan, only_own_kinds, tried_least
from panplan.errors import BadDone
from panplan.holds import is_hold
from panplan.opening import still_open
from panplan.plans import is_plan, length_of, walked
from panplan.telling import least, told
from samples import COUNTS, SLOW, all_cases, drawn_cases, drawn_done, no_done, one_apart, outcome, two_heavier

FIRST = ((0,), (1,))
# How many things, which cases of them, and how many weighings tell these.
KNOWN = (
    (2, one_apart(2, 1), 1), (3, one_apart(3, 1), 1), (4, one_apart(4, 1), 2), (5, one_apart(5, 1), 2),
    (2, one_apart(2, -1), 1), (3, one_apart(3, -1), 1), (4, one_apart(4, -1), 2), (5, one_apart(5, -1), 2),
    (3, one_apart(3, 1, -1), 2), (4, one_apart(4, 1, -1), 3), (5, one_apart(5, 1, -1), 3),
    (3, two_heavier(3), 1), (4, two_heavier(4), 2), (5, two_heavier(5), 3),
    (4, SLOW, 4), (2, [(0, 0), (0, 1), (1, 0)], 1), (3, one_apart(3, 1) + [(0, 0, 0)], 2),
)
WITH_ALIKE = (
    (2, one_apart(2, 1, -1)), (2, [(0, 0), (1, 1)]), (2, [(-1, -1), (0, 0)]), (2, [(1, 0), (0, 1), (1, -1)]),
    (3, [(0, 0, 0), (1, 1, 1)]), (3, [(1, 0, 0), (1, -1, -1)]), (4, [(0, 0, 0, 0), (1, 0, 0, 0), (-1, -1, -1, -1)]),
    (4, [(1, 0, 0, 0), (1, -1, -1, -1)]), (5, [(0, 0, 0, 0, 0), (-1, -1, -1, -1, -1)]), (5, [(1,) * 5, (0,) * 5]),
)


class Checked(unittest.TestCase):
    def check(self, many, cases, done):
        """Look at what is told from every side, and tell its sort and the least length."""
        answer = told(many, cases, done)
        length = least(many, cases, done)
        some = still_open(many, cases, done)
        self.assertTrue(only_own_kinds(answer))
        self.assertEqual(answer[0] == "none", not some)
        self.assertEqual(answer[0] == "alike", has_alike(many, some))
        if answer[0] == "plan":
            word, plan, hold = answer
            self.assertIs(type(length), int)
            self.check_plan(many, some, plan, length)
            self.check_hold(many, some, hold, length)
        else:
            self.assertIs(length, None)
            self.check_no_plan(many, some, answer)
        return answer[0], length

    def check_plan(self, many, some, plan, length):
        self.assertTrue(look_plan(many, some, plan))
        self.assertIs(is_plan(many, some, plan), True)
        self.assertEqual(look_length(plan), length)
        self.assertEqual(length_of(plan), length)

    def check_hold(self, many, some, hold, length):
        if length == 0:
            self.assertIs(hold, None)
            self.assertEqual(len(some), 1)
        else:
            self.assertTrue(look_hold(many, some, length - 1, hold))
            self.assertIs(is_hold(many, some, length - 1, hold), True)

    def check_no_plan(self, many, some, answer):
        if answer[0] == "none":
            self.assertEqual(answer, ("none",))
            self.assertEqual(some, [])
        else:
            word, one, other = answer
            self.assertEqual(word, "alike")
            self.assertIn(one, some)
            self.assertIn(other, some)
            self.assertNotEqual(one, other)
            self.assertTrue(look_alike(many, one, other))


class KnownCases(Checked):
    def test_least(self):
        for many, cases, length in KNOWN:
            with self.subTest(many=many, cases=cases):
                self.assertEqual(least(many, cases, []), length)
                self.assertEqual(self.check(many, cases, []), ("plan", length))
                self.assertEqual(tried_least(many, cases), length)

    def test_one_case(self):
        for many in COUNTS:
            for case in all_cases(many):
                self.assertEqual(told(many, [case], []), ("plan", ("told", case), None))
                number = least(many, [case], [])
                self.assertIs(type(number), int)
                self.assertEqual(number, 0)

    def test_one_case_that_is_left(self):
        for many in COUNTS:
            cases = one_apart(many, 1)
            self.assertEqual(told(many, cases, [(FIRST, 1)]), ("plan", ("told", cases[0]), None))
            self.assertEqual(told(many, cases, [(FIRST, -1)] * 20), ("plan", ("told", cases[1]), None))
            self.assertEqual(least(many, cases, [(FIRST, -1)] * 20), 0)

    def test_two_cases_of_two_things(self):
        for cases in ([(1, 0), (0, 1)], [(0, 1), (1, 0)]):
            word, plan, hold = told(2, cases, [])
            self.assertEqual(word, "plan")
            self.assertIn(plan, (
                ("weigh", FIRST, (("told", (0, 1)), None, ("told", (1, 0)))),
                ("weigh", ((1,), (0,)), (("told", (1, 0)), None, ("told", (0, 1)))),
            ))
            self.assertEqual(hold, ("many",))

    def test_twelve_cases(self):
        for many in (3, 4, 5):
            for cases in (all_cases(many)[:12], all_cases(many)[-12:], all_cases(many)[5:17]):
                self.check(many, cases, [])
        cases = one_apart(5, 1, -1) + [(0, 0, 0, 0, 0), (1, 0, 0, 0, -1)]
        self.assertEqual(self.check(5, cases, []), ("plan", 3))
        self.assertEqual(self.check(4, SLOW, []), ("plan", 4))

    def test_alike_on_the_scales(self):
        for many, cases in WITH_ALIKE:
            with self.subTest(many=many, cases=cases):
                for order in permutations(cases):
                    self.assertEqual(self.check(many, list(order), []), ("alike", None))
        # All things heavier, all lighter and none of them: no weighing parts these.
        for many in COUNTS:
            cases = [(1,) * many, (-1,) * many, (0,) * many]
            for pair in permutations(cases, 2):
                answer = told(many, list(pair), [])
                self.assertIn(answer, (("alike",) + pair, ("alike",) + pair[::-1]))
                self.assertIs(least(many, list(pair), []), None)

    def test_one_heavier_or_lighter_of_two(self):
        self.assertEqual(self.check(2, one_apart(2, 1, -1), []), ("alike", None))
        answer = told(2, [(1, 0), (0, 1), (0, -1)], [])
        self.assertEqual((answer[0], set(answer[1:])), ("alike", {(1, 0), (0, -1)}))
        self.assertEqual(self.check(2, [(1, 0), (0, 1), (0, -1)], [(FIRST, -1)]), ("plan", 0))
        self.assertEqual(self.check(2, [(1, 0), (0, 1), (0, -1)], [(FIRST, 1)]), ("alike", None))

    def test_each_pair_of_cases_of_four_things(self):
        for pair in combinations(all_cases(4), 2):
            self.assertEqual(least(4, list(pair), []), None if look_alike(4, *pair) else 1)

    def test_none_open(self):
        for many in COUNTS:
            cases = one_apart(many, 1, -1)
            for done in ([(FIRST, 1), (FIRST, 0)], [(FIRST, 1), (((1,), (0,)), 1)], [(FIRST, 0), (FIRST, -1)] * 10):
                self.assertEqual(told(many, cases, done), ("none",))
                self.assertIs(least(many, cases, done), None)
        self.assertEqual(told(2, [(0, 0)], [(FIRST, 1)]), ("none",))
        self.assertIs(least(2, [(0, 0)], [(FIRST, 1)]), None)

    def test_alike_ones_that_are_open_no_more(self):
        cases = [(0, 0, 0), (1, 1, 1), (1, 0, 0), (0, 1, 0)]
        self.assertEqual(self.check(3, cases, []), ("alike", None))
        self.assertEqual(self.check(3, cases, [(FIRST, 1)]), ("plan", 0))
        self.assertEqual(self.check(3, cases, [(((0,), (2,)), 0)]), ("alike", None))
        self.assertEqual(self.check(3, cases[1:], [(((0,), (2,)), 0)]), ("plan", 1))


class ByTrying(Checked):
    def test_all_cases_of_two_things(self):
        everything = all_cases(2)
        for size in range(1, 10):
            for cases in combinations(everything, size):
                sort, length = self.check(2, list(cases), [])
                self.assertEqual(length, tried_least(2, cases))
                self.assertEqual(sort, "alike" if length is None else "plan")

    def test_up_to_three_cases_of_three_things(self):
        for size in (1, 2, 3):
            for cases in combinations(all_cases(3), size):
                self.assertEqual(least(3, list(cases), []), tried_least(3, cases))

    def test_cases_of_each_number_of_things(self):
        for many in COUNTS:
            for cases in drawn_cases(many, 120):
                length = self.check(many, cases, [])[1]
                self.assertEqual(length, tried_least(many, cases))

    def test_cases_of_which_no_two_are_alike(self):
        for many in (3, 4, 5):
            for drawn in drawn_cases(many, 60):
                cases = []
                for case in drawn:
                    if not any(look_alike(many, case, other) for other in cases):
                        cases.append(case)
                self.assertEqual(self.check(many, cases, []), ("plan", tried_least(many, cases)))

    def test_cases_that_stand_near_one_another(self):
        for many in (3, 4, 5):
            for case in all_cases(many)[::17]:
                near = [case[:at] + (number,) + case[at + 1:] for at in range(many) for number in (-1, 0, 1)]
                cases = list(dict.fromkeys(near))
                self.assertEqual(self.check(many, cases, [])[1], tried_least(many, cases))
                for size in (4, 5):
                    self.assertEqual(self.check(many, cases[:size], [])[1], tried_least(many, cases[:size]))

    def test_behind_weighings_that_were_done(self):
        for many in COUNTS:
            for cases in drawn_cases(many, 40):
                for done in drawn_done(many, cases, 4):
                    some = [case for case in cases if all(outcome(step, case) == number for step, number in done)]
                    self.assertEqual(self.check(many, cases, done)[1], tried_least(many, some))

    def test_twenty_weighings_done(self):
        for many in COUNTS:
            for cases in drawn_cases(many, 15):
                for done in drawn_done(many, cases, 3):
                    twenty = (done * 20)[:20] or [(FIRST, 0)] * 20
                    once = done or [(FIRST, 0)]
                    self.assertEqual(self.check(many, cases, twenty), self.check(many, cases, once))


def renumbered(order, pan):
    return tuple(sorted(order[thing] for thing in pan))


def renumbered_case(order, case):
    return tuple(case[order.index(thing)] for thing in range(len(case)))


class Throughout(Checked):
    def test_behind_a_plans_own_weighings(self):
        samples = [(many, cases) for many, cases, length in KNOWN]
        samples += [(many, cases) for many in COUNTS for cases in drawn_cases(many, 25)]
        for many, cases in samples:
            answer = told(many, cases, [])
            for case in cases if answer[0] == "plan" else ():
                steps = walked(answer[1], case)
                left = answer[1]
                for place, (weighing, sign) in enumerate(steps):
                    sort, length = self.check(many, cases, steps[:place])
                    self.assertEqual(sort, "plan")
                    self.assertLessEqual(length, look_length(left))
                    left = left[2][sign + 1]
                self.assertEqual(left, ("told", case))
                self.assertEqual(told(many, cases, steps), ("plan", ("told", case), None))

    def test_the_cases_in_another_order(self):
        for many in COUNTS:
            for cases in drawn_cases(many, 25):
                for done in drawn_done(many, cases, 2):
                    expected = self.check(many, cases, done)
                    for other in (cases[::-1], cases[3:] + cases[:3], sorted(cases), cases[::2] + cases[1::2]):
                        self.assertEqual(self.check(many, other, done), expected)

    def test_the_things_numbered_otherwise(self):
        for many in COUNTS:
            orders = list(permutations(range(many)))
            for place, cases in enumerate(drawn_cases(many, 25)):
                for done in drawn_done(many, cases, 2):
                    expected = self.check(many, cases, done)
                    for order in (orders[place % len(orders)], orders[-1], orders[len(orders) // 2]):
                        others = [renumbered_case(order, case) for case in cases]
                        steps = [((renumbered(order, left), renumbered(order, right)), number)
                                 for (left, right), number in done]
                        self.assertEqual(self.check(many, others, steps), expected)

    def test_heavier_and_lighter_exchanged(self):
        for many in COUNTS:
            for cases in drawn_cases(many, 25):
                for done in drawn_done(many, cases, 2):
                    others = [tuple(-number for number in case) for case in cases]
                    steps = [(weighing, -number) for weighing, number in done]
                    self.assertEqual(self.check(many, others, steps), self.check(many, cases, done))

    def test_the_weighings_done_in_another_order_or_turned_about(self):
        for many in COUNTS:
            for cases in drawn_cases(many, 25):
                for done in drawn_done(many, cases, 3):
                    expected = self.check(many, cases, done)
                    turned = [((right, left), -number) for (left, right), number in done]
                    for steps in (done[::-1], done[1:] + done[:1], turned, done + turned, turned[:1] + done):
                        self.assertEqual(self.check(many, cases, steps), expected)

    def test_what_is_told_twice_is_right_twice(self):
        for many, cases, length in KNOWN:
            self.assertEqual(self.check(many, cases, []), self.check(many, cases, []))
        for many, cases in ((4, one_apart(4, 1)), (2, [(0, 0), (1, 1)])):
            first = told(many, cases, [])
            self.check(4, SLOW, [])
            self.check(many, cases[:1], [])
            self.assertEqual(self.check(many, cases, [])[0], first[0])

    def test_nothing_is_changed_and_nothing_kept(self):
        for many, cases, length in KNOWN:
            handed = list(cases)
            done = [(FIRST, 0)]
            first = told(many, handed, [])
            kept = told(many, handed, done)
            least(many, handed, done)
            self.assertEqual(handed, list(cases))
            self.assertEqual(done, [(FIRST, 0)])
            # Tuples throughout, so nothing that is done to it or to the lists can change it.
            self.assertTrue(only_own_kinds(first))
            self.assertTrue(only_own_kinds(kept))
            handed.clear()
            done.append(None)
            self.assertTrue(look_plan(many, list(cases), first[1]))
            handed.extend(cases[:1])
            self.assertEqual(told(many, handed, []), ("plan", ("told", cases[0]), None))


class NoDone(unittest.TestCase):
    def test_what_is_no_list_of_weighings_that_were_done(self):
        for many in COUNTS:
            cases = [(0,) * many, (1,) + (0,) * (many - 1)]
            for place, done in enumerate(no_done(many)):
                with self.subTest(many=many, place=place):
                    for function in (told, least):
                        with self.assertRaises(BadDone) as caught:
                            function(many, cases, done)
                        self.assertTrue(str(caught.exception))

    def test_where_cases_are_alike(self):
        for function in (told, least):
            with self.assertRaises(BadDone):
                function(2, [(0, 0), (1, 1)], [(FIRST, True)])
            with self.assertRaises(BadDone):
                function(2, [(0, 0)], [(FIRST, 1), (FIRST, 0), None])


if __name__ == "__main__":
    unittest.main()
