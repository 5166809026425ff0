"""The call same."""

import itertools
import unittest

from tests.helper import annul, field, last, licence, pledge, release, right, same, seize, transfer


class SameTest(unittest.TestCase):

    def test_the_same_days(self):
        before = [right(), transfer(1, 1, 2, 30, known=3, recorded=4)]
        for day, known in itertools.product((0, 3, 4, 9), repeat=2):
            self.assertEqual(last(*before, same(1, day, known, day, known)), [1])

    def test_no_deed(self):
        self.assertEqual(last(right(), same(1, 0, 0, 100000, 100000)), [1])

    def test_other_days(self):
        before = [right(), transfer(1, 1, 2, 30, recorded=4)]
        days = {(0, 3): [1], (3, 4): [0, 0, 0], (4, 3): [0, 0, 0], (4, 9): [1]}
        for (day, day2), expected in days.items():
            self.assertEqual(last(*before, same(day=day, day2=day2)), expected)

    def test_other_days_known(self):
        before = [right(), transfer(1, 1, 2, 30, known=4), annul(2, 1, known=8)]
        days = {(0, 3): [1], (3, 4): [0, 0, 0], (4, 3): [0, 0, 0], (4, 7): [1], (7, 8): [0, 0, 0], (3, 8): [1]}
        for (known, known2), expected in days.items():
            self.assertEqual(last(*before, same(known=known, known2=known2)), expected)

    def test_each_day_goes_with_its_own_day_known(self):
        before = [right(), transfer(1, 1, 2, 30, known=8, recorded=4)]
        self.assertEqual(last(*before, same(1, 4, 8, 8, 4)), [0, 0, 0])
        self.assertEqual(last(*before, same(1, 3, 8, 4, 7)), [1])
        self.assertEqual(last(*before, same(1, 4, 8, 9, 9)), [1])
        self.assertEqual(last(*before, same(1, 3, 9, 4, 8)), [0, 0, 0])

    def test_first_land_then_first_variant(self):
        before = [field(2, 3), right(boxes=(3, 7))]
        early = {"recorded": 5}
        cases = (([transfer(1, 1, 2, 5, lands=8, box=(2, 4), **early)], [0, 3, 1, 2]),
                 ([transfer(1, 1, 2, 5, lands=12, box=(3, 6), **early)], [0, 2, 0, 1]),
                 ([transfer(1, 1, 2, 5, lands=4, box=(1, 1), **early),
                   transfer(2, 1, 2, 5, lands=2, box=(2, 4), **early)], [0, 1, 1, 2]),
                 ([transfer(1, 1, 2, 5, lands=2, box=(2, 1), **early),
                   transfer(2, 1, 2, 5, lands=2, box=(1, 4), **early)], [0, 1, 0, 2]))
        for deeds, expected in cases:
            self.assertEqual(last(*before, *deeds, same(day=4, day2=5)), expected)

    def test_each_variant_of_a_field_of_64(self):
        variants = list(itertools.product(range(4), range(2), range(8)))
        for place in range(0, 64, 7):
            box = [2 ** leaf for leaf in variants[place]]
            before = [field(4, 2, 8), right(boxes=(15, 3, 255)), transfer(1, 1, 2, 5, recorded=5, box=box, lands=8)]
            self.assertEqual(last(*before, same(day=4, day2=5)), [0, 3, *variants[place]])

    def test_only_cells_of_the_right(self):
        before = [field(4), right(lands=6, boxes=(4, 8)), transfer(1, 1, 2, 5, recorded=5, box=(15,))]
        self.assertEqual(last(*before, same(day=4, day2=5)), [0, 1, 2])
        beyond = [field(4), right(lands=6, boxes=(4, 8)), transfer(1, 1, 2, 5, recorded=5, box=(3,)),
                  transfer(2, 1, 2, 5, recorded=5, lands=9, box=(15,))]
        self.assertEqual(last(*beyond, same(day=4, day2=5)), [1])

    def test_of_the_right_that_is_told(self):
        before = [right(1), right(2), transfer(1, 1, 2, 5, recorded=5, of=2)]
        self.assertEqual(last(*before, same(of=1, day=4, day2=5)), [1])
        self.assertEqual(last(*before, same(of=2, day=4, day2=5)), [0, 0, 0])

    def test_given_and_got_back(self):
        deeds = [transfer(1, 1, 2, 30, recorded=3), transfer(2, 2, 1, 30, recorded=5)]
        halves = right(owners=(1, 60, 2, 60))
        self.assertEqual(last(halves, *deeds, same(day=2, day2=3)), [0, 0, 0])
        self.assertEqual(last(halves, *deeds, same(day=2, day2=5)), [1])
        self.assertEqual(last(halves, *deeds, transfer(3, 2, 3, 60, recorded=6), transfer(4, 3, 2, 60, recorded=7),
                              same(day=2, day2=7)), [1])

    def test_given_wholly_and_got_back(self):
        deeds = [transfer(1, 1, 3, 60, recorded=3), transfer(2, 2, 4, 60, recorded=3),
                 transfer(3, 4, 2, 60, recorded=5), transfer(4, 3, 1, 60, recorded=5)]
        self.assertEqual(last(right(owners=(1, 60, 2, 60)), *deeds, same(day=2, day2=5)), [1])

    def test_got_back_in_some_cells(self):
        deeds = [transfer(1, 1, 2, 30, recorded=3), transfer(2, 2, 1, 30, recorded=5, lands=7),
                 transfer(3, 2, 1, 30, recorded=6, box=(1,))]
        self.assertEqual(last(right(), *deeds, same(day=2, day2=5)), [0, 3, 0])
        self.assertEqual(last(right(), *deeds, same(day=2, day2=6)), [0, 3, 1])

    def test_the_same_parts_of_other_persons(self):
        deeds = [transfer(1, 1, 3, 60, recorded=3)]
        self.assertEqual(last(right(owners=(1, 60, 2, 60)), *deeds, same(day=2, day2=3)), [0, 0, 0])

    def test_the_same_persons_with_other_parts(self):
        deeds = [transfer(1, 1, 2, 1, recorded=3)]
        self.assertEqual(last(right(owners=(1, 60, 2, 60)), *deeds, same(day=2, day2=3)), [0, 0, 0])

    def test_licences_and_locks_make_no_difference(self):
        deeds = [licence(1, 1, 2, recorded=3), pledge(2, 1, 3, 50, recorded=4), release(3, 2, recorded=5),
                 pledge(4, 1, 3, 50, recorded=6), seize(5, 4, recorded=7)]
        self.assertEqual([last(right(), *deeds, same(day=2, day2=day)) for day in (3, 4, 5, 6)], [[1]] * 4)
        self.assertEqual(last(right(), *deeds, same(day=2, day2=7)), [0, 0, 0])

    def test_whether_the_right_is_in_force_makes_no_difference(self):
        before = [right(first=5, last=9), transfer(1, 1, 2, 30, recorded=50)]
        self.assertEqual(last(*before, same(day=4, day2=6)), [1])
        self.assertEqual(last(*before, same(day=20, day2=50)), [0, 0, 0])
