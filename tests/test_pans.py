"""Points 1, 3 and 4, and the interface "panplan/pans.py"."""

import unittest
from itertools import product

from panplan.errors import BadCount
from panplan.pans import came, is_weighing, leading
from samples import (
    COUNTS, NO_COUNTS, NO_WHOLE_NUMBERS, VERY_GREAT, EqualToAll, Plain, Touchy, TouchyTuple, all_cases, all_weighings,
)

LEADING = {
    2: [((0,), (1,))],
    3: [((0,), (1,)), ((0,), (2,)), ((1,), (2,))],
    4: [
        ((0,), (1,)), ((0,), (2,)), ((0,), (3,)),
        ((0, 1), (2, 3)), ((0, 2), (1, 3)), ((0, 3), (1, 2)),
        ((1,), (2,)), ((1,), (3,)), ((2,), (3,)),
    ],
    5: [
        ((0,), (1,)), ((0,), (2,)), ((0,), (3,)), ((0,), (4,)),
        ((0, 1), (2, 3)), ((0, 1), (2, 4)), ((0, 1), (3, 4)),
        ((0, 2), (1, 3)), ((0, 2), (1, 4)), ((0, 2), (3, 4)),
        ((0, 3), (1, 2)), ((0, 3), (1, 4)), ((0, 3), (2, 4)),
        ((0, 4), (1, 2)), ((0, 4), (1, 3)), ((0, 4), (2, 3)),
        ((1,), (2,)), ((1,), (3,)), ((1,), (4,)),
        ((1, 2), (3, 4)), ((1, 3), (2, 4)), ((1, 4), (2, 3)),
        ((2,), (3,)), ((2,), (4,)), ((3,), (4,)),
    ],
}


def exchanged(weighing):
    left, right = weighing
    return (right, left)


class Leading(unittest.TestCase):
    def test_just_those_that_lead_in_the_order_of_tuples(self):
        for many in COUNTS:
            self.assertEqual(leading(many), LEADING[many])

    def test_the_same_by_another_way(self):
        for many in COUNTS:
            expected = [(left, right) for left, right in all_weighings(many) if min(left + right) in left]
            self.assertEqual(leading(many), expected)

    def test_each_weighing_or_its_exchange_leads_and_not_both(self):
        for many in COUNTS:
            told = leading(many)
            for weighing in all_weighings(many):
                self.assertNotEqual(weighing in told, exchanged(weighing) in told)

    def test_kinds(self):
        for many in COUNTS:
            told = leading(many)
            self.assertIs(type(told), list)
            for weighing in told:
                self.assertIs(type(weighing), tuple)
                self.assertEqual(len(weighing), 2)
                for pan in weighing:
                    self.assertIs(type(pan), tuple)
                    for thing in pan:
                        self.assertIs(type(thing), int)

    def test_told_anew_each_time(self):
        for many in COUNTS:
            first = leading(many)
            second = leading(many)
            self.assertIsNot(first, second)
            first.clear()
            second.append(None)
            self.assertEqual(leading(many), LEADING[many])
            third = leading(many)
            third[0] = "changed"
            third.reverse()
            self.assertEqual(leading(many), LEADING[many])

    def test_nothing_that_is_asked_later_changes_it(self):
        told = leading(4)
        leading(5)
        leading(4).pop()
        self.assertEqual(told, LEADING[4])

    def test_what_is_no_count(self):
        # No subtests: a very great number that is let through would be listed for ever,
        # so the first one that is let through has to end this.
        for place, many in enumerate(NO_COUNTS):
            with self.assertRaises(BadCount, msg=f"place {place}") as caught:
                leading(many)
            self.assertTrue(str(caught.exception))


class IsWeighing(unittest.TestCase):
    def expect_none(self, many, thing):
        self.assertIs(is_weighing(many, thing), False)

    def test_all_weighings(self):
        for many in COUNTS:
            for weighing in all_weighings(many):
                self.assertIs(is_weighing(many, weighing), True)

    def test_those_that_lead_and_their_exchanges(self):
        for many in COUNTS:
            for weighing in LEADING[many]:
                self.assertIs(is_weighing(many, weighing), True)
                self.assertIs(is_weighing(many, exchanged(weighing)), True)

    def test_no_other_pair_of_tuples_of_whole_numbers(self):
        for many in COUNTS:
            good = all_weighings(many)
            pans = [pan for size in range(4) for pan in product(range(-1, many + 1), repeat=size)]
            short = [pan for pan in pans if len(pan) < 3]
            for thing in product(short, short):
                self.assertIs(is_weighing(many, thing), thing in good)
            for pan in pans:
                self.expect_none(many, (pan, (0, 1, 2)))
                self.expect_none(many, ((0, 1, 2), pan))

    def test_lists_in_place_of_tuples(self):
        for thing in ([(0,), (1,)], ([0], (1,)), ((0,), [1]), ([0], [1]), [[0], [1]], ((0, 1), [2, 3])):
            self.expect_none(4, thing)

    def test_one_part_or_three(self):
        for thing in ((), ((0,),), ((0,), (1,), (2,)), ((0,), (1,), ()), ((0,), (1,), None), (((0,), (1,)),), (0, 1)):
            self.expect_none(4, thing)

    def test_empty_pans(self):
        for thing in (((), ()), ((0,), ()), ((), (0,))):
            self.expect_none(4, thing)

    def test_pans_of_unlike_lengths(self):
        for thing in (((0,), (1, 2)), ((0, 1), (2,)), ((0, 1, 2), (3, 4)), ((0, 1, 2, 3), (4,))):
            self.expect_none(5, thing)

    def test_a_thing_twice(self):
        for thing in (((0, 0), (1, 2)), ((1, 2), (3, 3)), ((0,), (0,)), ((0, 1), (1, 2)), ((0, 1), (0, 2)),
                      ((0, 3), (1, 3)), ((0, 1), (0, 1)), ((2, 3), (0, 2))):
            self.expect_none(5, thing)

    def test_a_pan_that_does_not_rise(self):
        for thing in (((1, 0), (2, 3)), ((0, 1), (3, 2)), ((3, 1), (4, 2))):
            self.expect_none(5, thing)

    def test_a_thing_out_of_the_count(self):
        for many in COUNTS:
            for wrong in (-1, -2, many, many + 1, VERY_GREAT, -VERY_GREAT):
                self.expect_none(many, ((0,), (wrong,)))
                self.expect_none(many, ((wrong,), (0,)))
        self.expect_none(4, ((0, 1), (2, 4)))
        self.expect_none(4, ((-1, 1), (2, 3)))

    def test_what_is_no_whole_number_in_place_of_a_thing(self):
        for place, wrong in enumerate(NO_WHOLE_NUMBERS):
            with self.subTest(place=place, kind=type(wrong).__name__):
                for other in (0, 1, 2):
                    self.expect_none(4, ((wrong,), (other,)))
                    self.expect_none(4, ((other,), (wrong,)))
                self.expect_none(4, ((wrong, 1), (2, 3)))
                self.expect_none(4, ((0, wrong), (2, 3)))
                self.expect_none(4, ((0, 1), (wrong, 3)))
                self.expect_none(4, ((0, 1), (2, wrong)))

    def test_what_is_no_tuple_in_place_of_a_pan_or_of_the_whole(self):
        oddities = NO_WHOLE_NUMBERS + (
            0, 1, 2, VERY_GREAT, [0], [1], {0: 1, 1: 0}, {(0,), (1,)}, {(0,): 1, (1,): 0}, "ab", "01", b"\x00\x01",
            [(0,), (1,)], range(2), Plain(), EqualToAll(), Touchy(), TouchyTuple((0,)), TouchyTuple(((0,), (1,))),
        )
        for place, wrong in enumerate(oddities):
            with self.subTest(place=place, kind=type(wrong).__name__):
                self.expect_none(4, wrong)
                self.expect_none(4, (wrong, (2,)))
                self.expect_none(4, ((2,), wrong))
                self.expect_none(4, (wrong, wrong))

    def test_what_stands_deep(self):
        thing = 0
        for _ in range(60):
            thing = (thing, thing)
            self.expect_none(4, thing)
        thing = [0]
        for _ in range(60):
            thing = (thing,)
            self.expect_none(4, thing)
            self.expect_none(4, (thing, (1,)))

    def test_what_holds_itself(self):
        inner = [0]
        inner.append(inner)
        self.expect_none(4, inner)
        self.expect_none(4, (inner, inner))
        self.expect_none(4, ((inner,), (1,)))

    def test_what_was_handed_in_is_as_it_was(self):
        inner = [0]
        thing = [inner, (1,)]
        self.expect_none(4, thing)
        self.expect_none(4, (inner, (1,)))
        self.assertEqual(thing, [[0], (1,)])
        self.assertIs(thing[0], inner)


class Came(unittest.TestCase):
    def expect(self, weighing, case, expected):
        told = came(weighing, case)
        self.assertIs(type(told), int)
        self.assertEqual(told, expected)

    def test_one_against_one(self):
        for case, expected in (((1, 0), 1), ((0, 1), -1), ((-1, 0), -1), ((0, -1), 1), ((1, -1), 1), ((-1, 1), -1),
                               ((0, 0), 0), ((1, 1), 0), ((-1, -1), 0)):
            self.expect(((0,), (1,)), case, expected)
            self.expect(((1,), (0,)), case, -expected)

    def test_two_against_two(self):
        for case, expected in (((1, 1, -1, -1), 1), ((-1, -1, 1, 1), -1), ((1, -1, 0, 0), 0), ((1, 0, 0, 1), 0),
                               ((1, 0, 0, 0), 1), ((0, 0, 0, -1), 1), ((0, -1, 0, 0), -1), ((1, -1, -1, 0), 1),
                               ((1, 0, 1, 1), -1), ((0, 0, 0, 0), 0), ((1, 1, 1, 1), 0)):
            self.expect(((0, 1), (2, 3)), case, expected)
            self.expect(((2, 3), (0, 1)), case, -expected)

    def test_things_aside_do_not_count(self):
        self.expect(((1,), (3,)), (1, 0, 1, 0, 1), 0)
        self.expect(((1,), (3,)), (-1, 1, -1, 0, -1), 1)
        self.expect(((0, 4), (1, 2)), (0, 0, 1, 1, 0), -1)

    def test_all_weighings_in_all_cases(self):
        for many in COUNTS:
            for weighing, case in product(all_weighings(many), all_cases(many)):
                left = sum(case[thing] for thing in range(many) if thing in weighing[0])
                right = sum(case[thing] for thing in range(many) if thing in weighing[1])
                expected = 0 if left == right else 1 if left > right else -1
                self.expect(weighing, case, expected)

    def test_exchanged_comes_to_the_opposite(self):
        for many in COUNTS:
            for weighing, case in product(leading(many), all_cases(many)):
                self.expect(exchanged(weighing), case, -came(weighing, case))


class Interface(unittest.TestCase):
    def test_defined_in_its_file(self):
        for function in (leading, is_weighing, came):
            self.assertEqual(function.__module__, "panplan.pans")


if __name__ == "__main__":
    unittest.main()
