"""The calls force and owners."""

import itertools
import unittest

from tests.helper import annul, field, force, last, licence, owners, pledge, right, run, seize, transfer


class ForceTest(unittest.TestCase):

    def test_no_right(self):
        self.assertEqual(run(force()), [[0]])

    def test_first_and_last_day(self):
        days = (0, 4, 5, 7, 9, 10, 100000)
        found = [last(right(7, first=5, last=9), force(day=day)) for day in days]
        self.assertEqual(found, [[0], [0], [0, 7], [0, 7], [0, 7], [0], [0]])

    def test_right_of_one_day(self):
        self.assertEqual([last(right(first=5, last=5), force(day=day)) for day in (4, 5, 6)], [[0], [0, 1], [0]])

    def test_edges_of_days(self):
        before = [right(1, first=0, last=0), right(2, first=100000, last=100000)]
        self.assertEqual([last(*before, force(day=day)) for day in (0, 1, 99999, 100000)], [[0, 1], [0], [0], [0, 2]])

    def test_several_rising_in_whatever_order_they_come(self):
        rights = [right(9, first=2), right(30), right(5, last=6), right(77, lands=2), right(1, boxes=(2,))]
        for order in itertools.permutations(rights):
            self.assertEqual(last(*order, force(day=4)), [0, 5, 9, 30])
        self.assertEqual(last(*rights, force(day=1)), [0, 5, 30])
        self.assertEqual(last(*rights, force(day=7, land=1, variant=(1,))), [0, 1, 9, 30, 77])

    def test_eight(self):
        rights = [right(r) for r in range(80, 0, -10)]
        self.assertEqual(last(*rights, force()), [0, 10, 20, 30, 40, 50, 60, 70, 80])

    def test_only_its_cells(self):
        before = [field(2, 2), right(3, lands=5, boxes=(1, 1, 2, 2))]
        for land, variant in itertools.product(range(4), itertools.product(range(2), range(2))):
            is_cell = land in (0, 2) and variant in ((0, 0), (1, 1))
            self.assertEqual(last(*before, force(land=land, variant=variant)), [0, 3] if is_cell else [0])

    def test_a_variant_in_two_boxes_is_told_once(self):
        self.assertEqual(last(right(boxes=(1, 3, 1)), force()), [0, 1])

    def test_deeds_make_no_difference(self):
        self.assertEqual(last(right(), transfer(1, 1, 2, 120), licence(2, 2, 3), force()), [0, 1])


class OwnersTest(unittest.TestCase):

    def test_no_right(self):
        self.assertEqual(run(owners()), [[0]])

    def test_rising_persons(self):
        deeds = [transfer(1, 9, 20, 10), transfer(2, 9, 1, 10), transfer(3, 9, 12, 10)]
        self.assertEqual(last(right(owners=(9, 120)), *deeds, owners()), [0, 1, 9, 12, 20])

    def test_several_rights_each_person_once(self):
        rights = [right(4, owners=(7, 60, 9, 60)), right(2, owners=(3, 20, 9, 100)), right(3, owners=(5, 120))]
        for order in itertools.permutations(rights):
            self.assertEqual(last(*order, owners()), [0, 3, 5, 7, 9])

    def test_a_right_that_is_not_in_force_on_the_day(self):
        rights = [right(1, first=5, last=9, owners=(8, 120)), right(2, first=7, last=12, owners=(3, 120))]
        found = [last(*rights, owners(day=day)) for day in (4, 5, 6, 7, 9, 10, 12, 13)]
        self.assertEqual(found, [[0], [0, 8], [0, 8], [0, 3, 8], [0, 3, 8], [0, 3], [0, 3], [0]])

    def test_only_rights_with_the_cell(self):
        rights = [right(1, lands=1), right(2, boxes=(2,), owners=(2, 120))]
        self.assertEqual(last(*rights, owners()), [0, 1])
        self.assertEqual(last(*rights, owners(land=1)), [0])
        self.assertEqual(last(*rights, owners(variant=(1,))), [0, 1, 2])
        self.assertEqual(last(*rights, owners(land=1, variant=(1,))), [0, 2])

    def test_who_holds_nothing_any_more(self):
        self.assertEqual(last(right(owners=(1, 60, 2, 60)), transfer(1, 1, 3, 60), owners()), [0, 2, 3])

    def test_only_where_the_deed_covers(self):
        before = [right(), transfer(1, 1, 2, 120, lands=2, box=(2,))]
        self.assertEqual(last(*before, owners(land=1, variant=(1,))), [0, 2])
        self.assertEqual(last(*before, owners(land=0, variant=(1,))), [0, 1])
        self.assertEqual(last(*before, owners(land=1, variant=(0,))), [0, 1])

    def test_licensees_and_creditors_hold_nothing(self):
        before = [right(), licence(1, 1, 5), pledge(2, 1, 6, 120)]
        self.assertEqual(last(*before, owners()), [0, 1])
        self.assertEqual(last(*before, seize(3, 2), owners()), [0, 6])

    def test_on_the_day_as_known(self):
        before = [right(), transfer(1, 1, 2, 30, known=8, recorded=4), annul(2, 1, known=9)]
        self.assertEqual(last(*before, owners(day=4, known=8)), [0, 1, 2])
        self.assertEqual(last(*before, owners(day=3, known=8)), [0, 1])
        self.assertEqual(last(*before, owners(day=8, known=7)), [0, 1])
        self.assertEqual(last(*before, owners(day=8, known=9)), [0, 1])
