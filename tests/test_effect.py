"""The call effect."""

import unittest

from tests.helper import annul, effect, field, last, licence, pledge, release, right, run, seize, sole, transfer

# Four cells: one land, four variants.
FOUR = (field(4), right(lands=1, boxes=(15,), owners=(1, 60, 2, 60)))
ALL = {"box": (15,)}


def worked(deed, *before, known=100000):
    """How the deed worked in the four cells."""
    return last(*FOUR, *before, deed, effect(deed[1], known))


class TransferTest(unittest.TestCase):

    def test_wholly(self):
        self.assertEqual(worked(transfer(9, 1, 3, 59, **ALL)), [4, 4, 0, 0])
        self.assertEqual(worked(transfer(9, 1, 3, 60, **ALL)), [4, 4, 0, 0])

    def test_in_part(self):
        self.assertEqual(worked(transfer(9, 1, 3, 61, **ALL)), [4, 0, 4, 0])
        before = [transfer(1, 1, 3, 59, **ALL)]
        self.assertEqual(worked(transfer(9, 1, 3, 2, **ALL), *before), [4, 0, 4, 0])

    def test_not_at_all(self):
        self.assertEqual(worked(transfer(9, 3, 1, 1, **ALL)), [4, 0, 0, 4])
        self.assertEqual(worked(transfer(9, 1, 3, 1, **ALL), transfer(1, 1, 3, 60, **ALL)), [4, 0, 0, 4])

    def test_locked_parts_do_not_go(self):
        before = [pledge(1, 1, 5, 20, **ALL)]
        self.assertEqual(worked(transfer(9, 1, 3, 40, **ALL), *before), [4, 4, 0, 0])
        self.assertEqual(worked(transfer(9, 1, 3, 41, **ALL), *before), [4, 0, 4, 0])
        self.assertEqual(worked(transfer(9, 1, 3, 60, **ALL), pledge(1, 1, 5, 60, **ALL)), [4, 0, 0, 4])

    def test_released_and_seized_parts(self):
        before = [pledge(1, 1, 5, 60, **ALL)]
        self.assertEqual(worked(transfer(9, 1, 3, 60, **ALL), *before, release(2, 1)), [4, 4, 0, 0])
        self.assertEqual(worked(transfer(9, 1, 3, 60, **ALL), *before, seize(2, 1)), [4, 0, 0, 4])
        self.assertEqual(worked(transfer(9, 5, 3, 60, **ALL), *before, seize(2, 1)), [4, 4, 0, 0])

    def test_differently_from_cell_to_cell(self):
        before = [transfer(1, 1, 3, 30, box=(3,)), transfer(2, 1, 3, 60, box=(4,))]
        self.assertEqual(worked(transfer(9, 1, 4, 40, **ALL), *before), [4, 1, 2, 1])
        self.assertEqual(worked(transfer(9, 1, 4, 30, **ALL), *before), [4, 3, 0, 1])
        self.assertEqual(worked(transfer(9, 1, 4, 40, box=(6,)), *before), [2, 0, 1, 1])

    def test_to_the_giver(self):
        self.assertEqual(worked(transfer(9, 1, 1, 60, **ALL)), [4, 4, 0, 0])
        self.assertEqual(worked(transfer(9, 1, 1, 61, **ALL)), [4, 0, 4, 0])
        self.assertEqual(worked(transfer(9, 3, 3, 1, **ALL)), [4, 0, 0, 4])
        self.assertEqual(worked(transfer(9, 1, 1, 60, **ALL), pledge(1, 1, 5, 60, box=(1,)),
                                pledge(2, 1, 5, 1, box=(2,))), [4, 2, 1, 1])


class LicenceTest(unittest.TestCase):

    def test_wholly_or_not_at_all(self):
        for make in (licence, sole):
            self.assertEqual(worked(make(9, 1, 5, **ALL)), [4, 4, 0, 0])
            self.assertEqual(worked(make(9, 3, 5, **ALL)), [4, 0, 0, 4])
            self.assertEqual(worked(make(9, 1, 5, **ALL), transfer(1, 1, 3, 60, box=(5,))), [4, 2, 0, 2])

    def test_one_part_is_enough(self):
        self.assertEqual(worked(licence(9, 1, 5, **ALL), transfer(1, 1, 3, 59, **ALL)), [4, 4, 0, 0])

    def test_locked_parts_are_enough(self):
        self.assertEqual(worked(licence(9, 1, 5, **ALL), pledge(1, 1, 3, 60, **ALL)), [4, 4, 0, 0])

    def test_a_giver_who_was_bound_but_holds_nothing_any_more(self):
        before = [licence(1, 1, 5, **ALL), transfer(2, 1, 3, 60, **ALL)]
        self.assertEqual(worked(licence(9, 1, 5, **ALL), *before), [4, 0, 0, 4])

    def test_whatever_its_days_are(self):
        self.assertEqual(worked(licence(9, 1, 5, begin=9, to=3, **ALL)), [4, 4, 0, 0])

    def test_to_the_giver(self):
        self.assertEqual(worked(licence(9, 1, 1, **ALL)), [4, 4, 0, 0])


class PledgeTest(unittest.TestCase):

    def test_wholly_in_part_and_not_at_all(self):
        self.assertEqual(worked(pledge(9, 1, 5, 60, **ALL)), [4, 4, 0, 0])
        self.assertEqual(worked(pledge(9, 1, 5, 61, **ALL)), [4, 0, 4, 0])
        self.assertEqual(worked(pledge(9, 3, 5, 1, **ALL)), [4, 0, 0, 4])

    def test_differently_from_cell_to_cell(self):
        before = [pledge(1, 1, 3, 30, box=(3,)), pledge(2, 1, 3, 60, box=(4,))]
        self.assertEqual(worked(pledge(9, 1, 4, 40, **ALL), *before), [4, 1, 2, 1])

    def test_to_the_giver(self):
        self.assertEqual(worked(pledge(9, 1, 1, 60, **ALL)), [4, 4, 0, 0])

    def test_what_a_release_or_a_seizure_does_later_makes_no_difference(self):
        for again in (release, seize):
            self.assertEqual(last(*FOUR, pledge(1, 1, 5, 60, **ALL), again(2, 1), effect(1)), [4, 4, 0, 0])


class CellsTest(unittest.TestCase):

    def test_lands_and_box_beyond_the_right(self):
        before = [field(2, 3), right(lands=6, boxes=(1, 3, 2, 4))]
        for make in (transfer(9, 1, 2, 5, box=(3, 7)), licence(9, 1, 2, box=(3, 7)), pledge(9, 1, 2, 5, box=(3, 7))):
            self.assertEqual(last(*before, make, effect(9)), [6, 6, 0, 0])
        self.assertEqual(last(*before, transfer(9, 1, 2, 5, lands=3, box=(3, 6)), effect(9)), [2, 2, 0, 0])

    def test_no_cell_of_the_right(self):
        before = [right(lands=1, boxes=(1,))]
        self.assertEqual(last(*before, transfer(9, 1, 2, 5, box=(2,)), effect(9)), [0, 0, 0, 0])
        self.assertEqual(last(*before, licence(9, 1, 2, lands=14), effect(9)), [0, 0, 0, 0])

    def test_a_variant_in_two_boxes_is_one_cell(self):
        self.assertEqual(last(right(lands=1, boxes=(3, 1, 1)), transfer(9, 1, 2, 5), effect(9)), [2, 2, 0, 0])

    def test_all_256(self):
        before = [field(2, 4, 8), right(boxes=(3, 15, 255), owners=(1, 1, 2, 119))]
        self.assertEqual(last(*before, transfer(9, 1, 2, 1, box=(3, 15, 255)), effect(9)), [256, 256, 0, 0])
        self.assertEqual(last(*before, pledge(9, 1, 2, 2, box=(3, 15, 255)), effect(9)), [256, 0, 256, 0])

    def test_each_land_for_itself(self):
        before = [right(), transfer(1, 1, 2, 120, lands=2), transfer(2, 1, 2, 60, lands=4, box=(1,))]
        self.assertEqual(last(*before, transfer(9, 1, 3, 100), effect(9)), [8, 5, 1, 2])

    def test_of_its_right_alone(self):
        before = [right(1), right(2, lands=1, owners=(2, 120)), transfer(1, 1, 3, 120)]
        self.assertEqual(last(*before, transfer(9, 2, 3, 5, of=2), effect(9)), [2, 2, 0, 0])
        self.assertEqual(last(*before, transfer(9, 1, 3, 5, of=2), effect(9)), [2, 0, 0, 2])


class CountedTest(unittest.TestCase):

    def test_not_known_yet(self):
        for deed in (transfer(9, 1, 3, 5, known=7, **ALL), licence(9, 1, 3, known=7, **ALL),
                     pledge(9, 1, 3, 5, known=7, **ALL)):
            self.assertEqual(worked(deed, known=6), [0, 0, 0, 0])
            self.assertEqual(worked(deed, known=7), [4, 4, 0, 0])

    def test_annulled(self):
        for deed in (transfer(9, 1, 3, 5, **ALL), licence(9, 1, 3, **ALL), pledge(9, 1, 3, 5, **ALL)):
            found = [last(*FOUR, deed, annul(10, 9, known=7, recorded=3), effect(9, known)) for known in (6, 7)]
            self.assertEqual(found, [[4, 4, 0, 0], [0, 0, 0, 0]])

    def test_deeds_before_it_as_known(self):
        before = [transfer(1, 1, 3, 50, known=7, **ALL), annul(2, 1, known=9)]
        found = [worked(transfer(9, 1, 3, 20, **ALL), *before, known=known) for known in (6, 7, 8, 9)]
        self.assertEqual(found, [[4, 4, 0, 0], [4, 0, 4, 0], [4, 0, 4, 0], [4, 4, 0, 0]])

    def test_recorded_later(self):
        before = [transfer(1, 1, 3, 60, recorded=6, **ALL)]
        self.assertEqual(worked(transfer(9, 1, 3, 20, recorded=5, **ALL), *before), [4, 4, 0, 0])
        self.assertEqual(worked(transfer(9, 1, 3, 20, recorded=7, **ALL), *before), [4, 0, 0, 4])

    def test_a_higher_number_on_the_same_day(self):
        self.assertEqual(worked(transfer(9, 1, 3, 20, **ALL), transfer(10, 1, 3, 60, **ALL)), [4, 4, 0, 0])
        self.assertEqual(worked(transfer(9, 1, 3, 20, **ALL), transfer(8, 1, 3, 60, **ALL)), [4, 0, 0, 4])

    def test_a_higher_number_that_was_recorded_before(self):
        before = [transfer(10, 1, 3, 60, recorded=4, **ALL)]
        self.assertEqual(worked(licence(9, 1, 3, recorded=5, **ALL), *before), [4, 0, 0, 4])

    def test_no_day_is_asked(self):
        self.assertEqual(worked(transfer(9, 1, 3, 20, recorded=100000, **ALL), known=0), [4, 4, 0, 0])

    def test_whether_the_right_is_in_force_makes_no_difference(self):
        before = [right(first=5, last=9), transfer(1, 1, 2, 5, recorded=50), transfer(2, 1, 2, 5, recorded=0)]
        self.assertEqual(run(*before, effect(1), effect(2))[3:], [[8, 8, 0, 0]] * 2)


class OtherKindTest(unittest.TestCase):

    def test_release_seizure_and_annulment(self):
        deeds = [right(), pledge(1, 1, 2, 5), release(2, 1), seize(3, 1), annul(4, 1)]
        for number in (2, 3, 4):
            self.assertEqual(last(*deeds, effect(number)), [-5])
            self.assertEqual(last(*deeds, effect(number, known=-1)), [-3])
        self.assertEqual(last(*deeds, effect(1)), [0, 0, 0, 0])
