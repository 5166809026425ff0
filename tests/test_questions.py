"""What the calls 10 to 19 have in common: ranges, forms, the order of refusals, and that they change nothing."""

import unittest

from tests.helper import (all_deeds, annul, bound, effect, field, force, free, holders, last, leave, licence, locks,
                          owners, parts, pledge, release, right, run, same, seize, told, transfer)

# Right 1 has the variant (0, 0) alone, and land 0 alone.
RIGHTS = (field(2, 3), right(1, lands=1, boxes=(1, 1)), right(5, owners=(2, 120), boxes=(3, 7)))
# Deeds 1 to 6, one of each kind.
DEEDS = (transfer(1, 1, 2, 10, box=(3, 7)), licence(2, 1, 3, box=(3, 7)), pledge(3, 1, 4, 10, box=(3, 7)),
         release(4, 3, recorded=8), seize(5, 3, recorded=9), annul(6, 1, known=50))
BEFORE = RIGHTS + DEEDS
VARIANT = (0, 0)

# A call of each number that is done.
DONE = (free(1), parts(1), effect(1), force(variant=VARIANT), locks(variant=VARIANT), bound(variant=VARIANT),
        all_deeds(), told(1), same(), owners(variant=VARIANT))

# By the call's number: where each whole number with a range stands, and its first and last.
PERSON, LAND, DAY = (1, 20), (0, 3), (0, 100000)
RANGES = {
    10: {1: PERSON, 2: LAND, 3: DAY, 4: DAY},
    11: {2: PERSON, 3: LAND, 4: DAY, 5: DAY},
    12: {2: DAY},
    13: {1: LAND, 2: DAY},
    14: {2: LAND, 3: DAY, 4: DAY},
    15: {2: LAND, 3: DAY, 4: DAY},
    16: {},
    17: {},
    18: {2: DAY, 3: DAY, 4: DAY, 5: DAY},
    19: {1: LAND, 2: DAY, 3: DAY},
}
WITH_RIGHT = (11, 14, 15, 18)
WITH_DEED = (12, 17)
WITH_VARIANT = (13, 14, 15, 19)
WITH_CELL = (14, 15)
FAR = (-9223372036854775808, 9223372036854775807)


def changed(call, place, number):
    return call[:place] + [number] + call[place + 1:]


def with_variant(call, variant):
    """The call with another variant; all these calls have theirs last."""
    return call[:-3] + [len(variant), *variant]


class RefusalsTest(unittest.TestCase):

    def test_each_number_once(self):
        self.assertEqual([call[0] for call in DONE], list(range(10, 20)))
        for call in DONE:
            self.assertGreaterEqual(last(*BEFORE, call)[0], 0, call)

    def test_edges_of_ranges(self):
        for call in DONE:
            for place, (low, high) in RANGES[call[0]].items():
                for number in (low, high):
                    answer = last(*BEFORE, changed(call, place, number))
                    no_cell = call[0] in WITH_CELL and place == 2 and number == 3
                    self.assertEqual(answer[0] < 0, no_cell, (call, place, number))

    def test_out_of_range(self):
        for call in DONE:
            for place, (low, high) in RANGES[call[0]].items():
                for number in (low - 1, high + 1) + FAR:
                    self.assertEqual(last(*BEFORE, changed(call, place, number)), [-3], (call, place, number))

    def test_variant_of_wrong_form(self):
        wrong = ((), (0,), (0, 0, 0), (-1, 0), (0, -1), (2, 0), (0, 3), (FAR[0], 0), (0, FAR[1]), (0,) * 60)
        for call in DONE:
            if call[0] in WITH_VARIANT:
                for variant in wrong:
                    self.assertEqual(last(*BEFORE, with_variant(call, variant)), [-4], (call, variant))

    def test_no_such_right(self):
        for call in DONE:
            if call[0] in WITH_RIGHT:
                for number in (0, 2, -1, 99, 100) + FAR:
                    self.assertEqual(last(*BEFORE, changed(call, 1, number)), [-5], (call, number))

    def test_no_such_deed(self):
        for call in DONE:
            if call[0] in WITH_DEED:
                for number in (0, 7, -1, 999, 1000) + FAR:
                    self.assertEqual(last(*BEFORE, changed(call, 1, number)), [-5], (call, number))

    def test_no_cell_of_the_right(self):
        for call in DONE:
            if call[0] in WITH_CELL:
                self.assertEqual(last(*BEFORE, changed(call, 2, 1)), [-7])
                self.assertEqual(last(*BEFORE, with_variant(call, (0, 1))), [-7])
                self.assertEqual(last(*BEFORE, with_variant(call, (1, 0))), [-7])

    def test_range_goes_before_all_others(self):
        for call in DONE:
            for place, (low, high) in RANGES[call[0]].items():
                wrong = changed(call, place, high + 1)
                if call[0] in WITH_RIGHT + WITH_DEED:
                    wrong = changed(wrong, 1, 77)
                if call[0] in WITH_VARIANT:
                    wrong = with_variant(wrong, (2, 0))
                self.assertEqual(last(*BEFORE, wrong), [-3], wrong)

    def test_form_goes_before_what_is_not_there(self):
        for call in DONE:
            if call[0] in WITH_CELL:
                self.assertEqual(last(*BEFORE, with_variant(changed(call, 1, 77), (0, 3))), [-4])
                self.assertEqual(last(*BEFORE, with_variant(changed(call, 2, 1), (0, 3))), [-4])

    def test_what_is_not_there_goes_before_no_cell(self):
        for call in DONE:
            if call[0] in WITH_CELL:
                self.assertEqual(last(*BEFORE, changed(changed(call, 1, 77), 2, 1)), [-5])

    def test_without_rights_and_deeds(self):
        expected = [[2], [-5], [-5], [0], [-5], [-5], [0], [-5], [-5], [0]]
        self.assertEqual(run(*[with_variant(call, (0,)) if call[0] in WITH_VARIANT else call for call in DONE]),
                         expected)


class NothingChangesTest(unittest.TestCase):

    def shown(self):
        asked = [holders(of, land, day, known, variant) for of in (1, 5) for land in (0, 1) for day in (0, 8, 9)
                 for known in (0, 50) for variant in ((0, 0), (1, 2))]
        asked += [leave(person, variant=VARIANT) for person in (1, 3, 9)]
        asked += [told(k) for k in range(1, 7)] + [effect(k, known) for k in (1, 2, 3) for known in (0, 50)]
        return asked + list(DONE) + [right(90, boxes=(3, 7)), transfer(900, 1, 2, 1, box=(3, 7))]

    def test_a_call_that_is_done(self):
        expected = run(*BEFORE, *self.shown())
        for call in DONE:
            found = run(*BEFORE, call, call, *self.shown())
            many = len(BEFORE)
            self.assertEqual(found[many], found[many + 1], call)
            self.assertEqual(found[:many] + found[many + 2:], expected, call)

    def test_a_call_that_is_refused(self):
        expected = run(*BEFORE, *self.shown())
        refused = [changed(call, 1, -1) for call in DONE if len(call) > 1]
        refused += [with_variant(call, (9, 9)) for call in DONE if call[0] in WITH_VARIANT]
        refused += [changed(call, 2, 1) for call in DONE if call[0] in WITH_CELL]
        for call in refused:
            found = run(*BEFORE, call, *self.shown())
            many = len(BEFORE)
            self.assertIn(found[many], ([-3], [-4], [-5], [-7]), call)
            self.assertEqual(found[:many] + found[many + 1:], expected, call)
