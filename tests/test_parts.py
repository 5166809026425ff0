"""The call parts."""

import unittest

from tests.helper import annul, field, last, licence, parts, pledge, right, seize, transfer

HALVES = right(owners=(1, 60, 2, 60))


class PartsTest(unittest.TestCase):

    def test_cells_and_parts_together(self):
        self.assertEqual(last(right(), parts(1)), [2, 240])
        self.assertEqual(last(HALVES, parts(2)), [2, 120])
        self.assertEqual(last(field(4, 4, 4), right(boxes=(15, 15, 15)), parts(1)), [64, 7680])

    def test_a_person_who_holds_nothing(self):
        self.assertEqual(last(right(), parts(2)), [0, 0])
        self.assertEqual(last(HALVES, transfer(1, 1, 3, 60), parts(1)), [0, 0])
        self.assertEqual(last(right(), licence(1, 1, 2), pledge(2, 1, 2, 120), parts(2)), [0, 0])

    def test_only_cells_in_which_the_person_holds_parts(self):
        before = [field(3), right(boxes=(7,)), transfer(1, 1, 2, 30, box=(3,)), transfer(2, 1, 2, 120, box=(2,))]
        self.assertEqual(last(*before, parts(1)), [2, 210])
        self.assertEqual(last(*before, parts(2)), [2, 150])

    def test_one_part(self):
        self.assertEqual(last(right(owners=(1, 1, 2, 119)), transfer(1, 1, 2, 1, box=(2,)), parts(1)), [1, 1])

    def test_a_land_that_is_not_the_rights(self):
        before = [right(lands=5)]
        self.assertEqual([last(*before, parts(1, land=land)) for land in range(4)], [[2, 240], [0, 0]] * 2)

    def test_each_land_for_itself(self):
        before = [right(), transfer(1, 1, 2, 30, lands=6)]
        self.assertEqual([last(*before, parts(2, land=land)) for land in range(4)], [[0, 0], [2, 60], [2, 60], [0, 0]])

    def test_a_variant_in_two_boxes_is_one_cell(self):
        self.assertEqual(last(right(boxes=(3, 3)), parts(1)), [2, 240])
        self.assertEqual(last(field(2, 2), right(boxes=(1, 3, 3, 1)), parts(1)), [3, 360])
        self.assertEqual(last(field(2, 2), right(boxes=(1, 1) * 8), parts(1)), [1, 120])

    def test_variants_in_no_box(self):
        self.assertEqual(last(field(2, 2), right(boxes=(1, 1, 2, 2)), parts(1)), [2, 240])

    def test_a_deed_beyond_the_cells_of_the_right(self):
        self.assertEqual(last(field(4), right(boxes=(6,)), transfer(1, 1, 2, 10, box=(15,)), parts(2)), [2, 20])

    def test_of_the_right_that_is_told(self):
        before = [right(1), right(2, owners=(2, 120)), transfer(1, 1, 3, 30), transfer(2, 2, 3, 50, of=2)]
        self.assertEqual(last(*before, parts(3, of=1)), [2, 60])
        self.assertEqual(last(*before, parts(3, of=2)), [2, 100])

    def test_whether_the_right_is_in_force_makes_no_difference(self):
        for day in (0, 5, 9, 10):
            self.assertEqual(last(right(first=5, last=9), parts(1, day=day)), [2, 240])

    def test_locked_parts_are_held(self):
        self.assertEqual(last(right(), pledge(1, 1, 2, 100), parts(1)), [2, 240])
        self.assertEqual(last(right(), pledge(1, 1, 2, 100), seize(2, 1), parts(2)), [2, 200])

    def test_on_the_day_as_known(self):
        before = [right(), transfer(1, 1, 2, 30, known=8, recorded=4), annul(2, 1, known=9)]
        self.assertEqual(last(*before, parts(2, day=4, known=8)), [2, 60])
        self.assertEqual(last(*before, parts(2, day=3, known=8)), [0, 0])
        self.assertEqual(last(*before, parts(2, day=8, known=7)), [0, 0])
        self.assertEqual(last(*before, parts(2, day=8, known=9)), [0, 0])

    def test_all_persons_together(self):
        before = [field(3, 2), right(lands=7, boxes=(3, 3, 6, 1), owners=(1, 50, 2, 70)),
                  transfer(1, 1, 3, 20, box=(5, 3)), pledge(2, 2, 4, 30, lands=3, box=(7, 1)), seize(3, 2),
                  transfer(4, 3, 20, 7, lands=5, box=(7, 3)), transfer(5, 1, 2, 120, box=(2, 3))]
        for land in range(4):
            found = [last(*before, parts(person, land=land)) for person in range(1, 21)]
            cells = 5 if land < 3 else 0
            self.assertEqual(sum(answer[1] for answer in found), 120 * cells)
            self.assertLessEqual(max(answer[0] for answer in found), cells)
