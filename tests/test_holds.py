"""Point 8, and the interface "panplan/holds.py"."""

import unittest
from itertools import product

from looks import look_hold, look_leading, parts_by, tried_least
from panplan.errors import BadCount
from panplan.holds import is_hold
from samples import (
    COUNTS, NO_LISTS, NO_OUTCOMES, NO_TUPLES, NO_WHOLE_NUMBERS, SLOW, VERY_GREAT, EqualToAll, Plain, Touchy,
    TouchyTuple, all_cases, drawn_cases, one_apart,
)

NO_NUMBERS = NO_WHOLE_NUMBERS + (-1, -2, -20, 21, 22, 100, VERY_GREAT, -VERY_GREAT)
MANY = ("many",)
# The three weighings that lead leave two of these three cases by 1, by 0 and by -1.
THREE = [(1, 1, 1), (1, 0, 1), (1, -1, 0)]
THREE_HOLD = ("each", ((1, MANY), (0, MANY), (-1, MANY)))
# Each of them leaves two of these six by -1, by 0 and by 1.
SIX = one_apart(3, 1, -1)
SIX_HOLD = ("each", ((-1, MANY), (-1, MANY), (-1, MANY)))
ALIKE = [(0, 0), (1, 1)]


class StrOfItsOwn(str):
    """A text of a kind of its own."""


NO_WORDS = (
    None, True, 0, 1, "", "Many", "Each", "many ", "each ", "man", "eac", "told", "weigh", "none", b"many", b"each",
    ["many"], ("each",), Plain(), EqualToAll(), Touchy(), StrOfItsOwn("many"), StrOfItsOwn("each"),
)


def some_hold(many, cases, number, signs=(-1, 0, 1)):
    """A hold of some cases at a number, or None; of the parts of which there is one, the first in an order is taken."""
    if len(cases) > 3 ** number:
        return MANY
    if number == 0:
        return None
    rows = []
    for weighing in look_leading(many):
        parts = parts_by(weighing, cases)
        found = [(sign, some_hold(many, parts[sign], number - 1, signs)) for sign in signs]
        found = [row for row in found if row[1] is not None]
        if not found:
            return None
        rows.append(found[0])
    return ("each", tuple(rows))


class IsHold(unittest.TestCase):
    def expect(self, many, cases, number, thing, expected):
        self.assertIs(is_hold(many, cases, number, thing), expected)

    def refute(self, many, cases, number, things):
        for place, thing in enumerate(things):
            with self.subTest(place=place):
                self.expect(many, cases, number, thing, False)

    def test_more_cases_than_a_power_of_three(self):
        for many in COUNTS:
            cases = all_cases(many)[:12]
            for length in range(1, len(cases) + 1):
                for number in range(21):
                    self.expect(many, cases[:length], number, MANY, length > 3 ** number)

    def test_number_0(self):
        for many in COUNTS:
            cases = all_cases(many)
            self.expect(many, cases[:1], 0, MANY, False)
            self.expect(many, cases[:2], 0, MANY, True)
            for length in (1, 2, 9):
                self.expect(many, cases[:length], 0, ("each", ()), False)
                row = (0, MANY)
                self.expect(many, cases[:length], 0, ("each", (row,) * len(look_leading(many))), False)

    def test_a_row_for_each_weighing_that_leads(self):
        self.expect(3, THREE, 1, MANY, False)
        self.expect(3, THREE, 1, THREE_HOLD, True)
        self.expect(3, THREE[::-1], 1, THREE_HOLD, True)
        self.expect(3, THREE, 0, THREE_HOLD, False)
        self.expect(3, THREE, 2, THREE_HOLD, False)
        for place in range(3):
            self.expect(3, THREE[:place] + THREE[place + 1:], 1, THREE_HOLD, False)
        for signs in product((-1, 0, 1), repeat=3):
            hold = ("each", tuple((sign, MANY) for sign in signs))
            self.expect(3, THREE, 1, hold, signs == (1, 0, -1))

    def test_each_sign(self):
        cases = [(1, 0), (0, 1), (1, 1), (0, 0)]
        self.expect(2, cases, 1, MANY, True)
        for sign in (-1, 0, 1):
            self.expect(2, cases, 1, ("each", ((sign, MANY),)), sign == 0)
            self.expect(2, cases[:2] + [(1, -1)], 1, ("each", ((sign, MANY),)), sign == 1)
            self.expect(2, cases[:2] + [(-1, 1)], 1, ("each", ((sign, MANY),)), sign == -1)
            self.expect(2, cases[:3], 1, ("each", ((sign, MANY),)), False)

    def test_a_hold_at_2(self):
        cases = one_apart(4, 1, -1)
        hold = some_hold(4, cases, 2)
        self.assertEqual(len(hold[1]), 9)
        self.expect(4, cases, 2, MANY, False)
        self.expect(4, cases, 2, hold, True)
        self.expect(4, cases, 3, hold, False)
        # Parts of more than three cases are more than one, too.
        self.expect(4, cases, 1, hold, True)
        self.expect(4, cases[:3], 2, hold, False)
        self.expect(5, [case + (0,) for case in cases], 2, hold, False)

    def test_a_hold_at_3(self):
        for signs in ((-1, 0, 1), (1, 0, -1), (0, 1, -1)):
            hold = some_hold(4, SLOW, 3, signs)
            self.expect(4, SLOW, 3, hold, True)
            self.expect(4, SLOW[::-1], 3, hold, True)
            for others, number in ((SLOW[1:], 3), (SLOW, 2), (SLOW, 1), (one_apart(4, 1, -1), 3)):
                self.expect(4, others, number, hold, look_hold(4, others, number, hold))
            self.expect(4, SLOW, 4, hold, False)

    def test_many_is_told_where_each_could_be(self):
        cases = [(0, 0), (1, 1), (-1, -1), (1, 0)]
        self.expect(2, cases, 1, MANY, True)
        self.expect(2, cases, 1, ("each", ((0, MANY),)), True)
        self.expect(2, cases, 2, ("each", ((0, ("each", ((0, MANY),))),)), True)
        self.expect(2, cases, 2, ("each", ((0, MANY),)), False)

    def test_number_20(self):
        hold = MANY
        for number in range(1, 21):
            hold = ("each", ((0, hold),))
            self.expect(2, ALIKE, number, hold, True)
            self.expect(2, ALIKE[::-1] + [(0, 1)], number, hold, True)
            self.expect(2, ALIKE, number - 1, hold, False)
            self.expect(2, [(0, 0), (0, 1)], number, hold, False)
        for wrong in (("each", ((0, hold),)), ("each", ((1, hold[1][0][1]),)), MANY, ("each", ((0, None),))):
            self.expect(2, ALIKE, 20, wrong, False)

    def test_number_20_of_five_things(self):
        cases = all_cases(5)[:12]
        self.refute(5, cases, 20, [MANY, ("each", ((0, MANY),) * 25), ("each", ()), ("told", cases[0]), None, 20])

    def test_empty_parts_have_no_hold(self):
        self.refute(2, [(1, 0)], 1, [("each", ((sign, MANY),)) for sign in (-1, 0, 1)])
        self.refute(2, [(1, 0), (1, -1)], 2, [
            ("each", ((sign, ("each", ((other, MANY),))),)) for sign in (-1, 0, 1) for other in (-1, 0)
        ])

    def test_one_case_has_no_hold(self):
        hold = MANY
        for number in range(21):
            self.expect(2, [(0, 0)], number, hold, False)
            self.expect(2, [(0, 0)], number, MANY, False)
            hold = ("each", ((0, hold),))

    def test_holds_that_are_made_by_another_way(self):
        for many in COUNTS:
            for cases in drawn_cases(many, 25):
                length = tried_least(many, cases)
                for number in range(3):
                    hold = some_hold(many, cases, number, (1, -1, 0))
                    self.assertEqual(hold is not None, length is None or length > number)
                    if hold is not None:
                        self.assertTrue(look_hold(many, cases, number, hold))
                        self.expect(many, cases, number, hold, True)
                        for other in range(4):
                            self.expect(many, cases, other, hold, look_hold(many, cases, other, hold))
                        self.expect(many, cases[1:] + cases[:1], number, hold, True)

    def test_a_hold_of_other_cases(self):
        for many in COUNTS:
            lists = list(drawn_cases(many, 15))
            for cases in lists:
                hold = some_hold(many, cases, 1)
                for others in lists if hold else ():
                    self.expect(many, others, 1, hold, look_hold(many, others, 1, hold))

    def test_one_part_of_a_hold_made_wrong(self):
        for many, cases, number in ((2, ALIKE, 4), (3, THREE, 1), (3, SIX[:4], 1),
                                    (4, one_apart(4, 1, -1), 2), (5, one_apart(5, 1, -1), 2), (4, SLOW, 3)):
            hold = some_hold(many, cases, number)
            self.expect(many, cases, number, hold, True)
            for thing in made_wrong(hold):
                self.expect(many, cases, number, thing, False)

    def test_any_thing(self):
        for cases, number in ((SIX, 1), (SIX, 2), (SIX, 0), (SIX, 20)):
            self.refute(3, cases, number, NO_LISTS + NO_OUTCOMES + NO_WORDS + (
                SIX_HOLD[1], list(SIX_HOLD), ["many"], ("many", None), ("many", MANY), (MANY,), ("each",),
                ("each", MANY), ("each", None), ("each", MANY, MANY), TouchyTuple(MANY), all_cases, ("many", "many"),
            ))

    def test_any_thing_for_a_word(self):
        self.expect(3, SIX, 1, SIX_HOLD, True)
        self.refute(3, SIX, 1, [(word,) for word in NO_WORDS + ("each",)])
        self.refute(3, SIX, 1, [(word, SIX_HOLD[1]) for word in NO_WORDS + ("many",)])

    def test_any_thing_for_the_rows(self):
        self.refute(3, SIX, 1, [("each", thing) for thing in NO_TUPLES + (list(SIX_HOLD[1]), TouchyTuple(SIX_HOLD[1]))])
        rows = SIX_HOLD[1]
        self.refute(3, SIX, 1, [("each", thing) for thing in ((), rows[:1], rows[:2], rows + rows[:1], rows * 2)])
        self.refute(3, SIX, 1, [SIX_HOLD + (None,), SIX_HOLD + SIX_HOLD, ("each",) + rows])

    def test_any_thing_for_a_row(self):
        first, second, third = SIX_HOLD[1]
        for wrong in NO_TUPLES + ((), (-1,), MANY, (-1, MANY, None), (MANY, -1), [-1, MANY], TouchyTuple((-1, MANY))):
            self.refute(3, SIX, 1, [
                ("each", (wrong, second, third)), ("each", (first, wrong, third)), ("each", (first, second, wrong)),
            ])

    def test_any_thing_for_what_a_weighing_came_to(self):
        first, second, third = SIX_HOLD[1]
        for wrong in NO_OUTCOMES + NO_TUPLES[6:] + (None, "-1"):
            self.refute(3, SIX, 1, [("each", ((wrong, MANY), second, third)), ("each", (first, second, (wrong, MANY)))])
        self.expect(2, [(1, 0), (1, -1)], 1, ("each", ((1, MANY),)), True)
        self.expect(2, [(1, 0), (1, -1)], 1, ("each", ((True, MANY),)), False)
        self.expect(2, ALIKE, 1, ("each", ((False, MANY),)), False)

    def test_any_thing_for_the_hold_of_a_row(self):
        first, second, third = SIX_HOLD[1]
        for wrong in NO_TUPLES + ((), ("each",), ("many", 1), ["many"], ("each", ()), SIX_HOLD, -1):
            self.refute(3, SIX, 1, [("each", ((-1, wrong), second, third)), ("each", (first, second, (-1, wrong)))])

    def test_what_stands_deep_or_holds_itself(self):
        thing = 0
        for _ in range(59):
            thing = ("each", thing)
            self.expect(2, ALIKE, 20, thing, False)
        around = ["each"]
        around.append(around)
        self.refute(2, ALIKE, 20, [around, ("each", around), ("each", (around,)), ("each", ((0, around),))])

    def test_nothing_is_changed_or_kept(self):
        cases = list(SIX)
        self.expect(3, cases, 1, SIX_HOLD, True)
        self.assertEqual(cases, SIX)
        inner = ["many"]
        self.expect(3, cases, 1, ("each", ((-1, MANY), (-1, MANY), (-1, inner))), False)
        self.assertEqual(inner, ["many"])
        del cases[1:]
        self.expect(3, cases, 1, SIX_HOLD, False)
        cases.extend(SIX[1:])
        self.expect(3, cases, 1, SIX_HOLD, True)


def made_wrong(hold):
    """Things that are a hold but for one place, for cases of which no smaller part is a hold there."""
    if hold == MANY:
        yield ("many", None)
        yield ["many"]
        yield ("each", ())
        yield None
        return
    word, rows = hold
    yield (word, list(rows))
    yield (word, rows[1:])
    yield (word, rows + rows[-1:])
    for place in {0, len(rows) // 2, len(rows) - 1}:
        sign, part = rows[place]
        for wrong in made_wrong(part):
            yield (word, rows[:place] + ((sign, wrong),) + rows[place + 1:])
        for row in ((sign,), [sign, part], (float(sign), part), (sign, part, None), (2, part)):
            yield (word, rows[:place] + (row,) + rows[place + 1:])


class NoNumber(unittest.TestCase):
    def test_what_is_no_whole_number_from_0_to_20(self):
        for place, number in enumerate(NO_NUMBERS):
            with self.subTest(place=place, kind=type(number).__name__):
                for thing in (MANY, SIX_HOLD, None, Touchy()):
                    with self.assertRaises(BadCount) as caught:
                        is_hold(3, SIX, number, thing)
                    self.assertTrue(str(caught.exception))

    def test_each_number_from_0_to_20(self):
        for many in COUNTS:
            for number in range(21):
                self.assertIs(is_hold(many, [(0,) * many], number, MANY), False)
                self.assertIs(is_hold(many, [(0,) * many, (1,) * many], number, MANY), number == 0)


if __name__ == "__main__":
    unittest.main()
