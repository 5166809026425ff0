"""The call free."""

import itertools
import unittest

from tests.helper import annul, field, free, last, leave, licence, right, run, sole, transfer


class FreeTest(unittest.TestCase):

    def test_without_a_right_all_variants(self):
        self.assertEqual(run(free(1)), [[2]])
        for leaves, many in (((1,), 1), ((8,), 8), ((3, 2), 6), ((8, 8), 64), ((2,) * 6, 64), ((1,) * 6, 1)):
            self.assertEqual(last(field(*leaves), free(1)), [many], leaves)

    def test_nobodys_leave_for_all_variants(self):
        self.assertEqual(last(right(), free(1)), [2])
        self.assertEqual(last(right(), licence(1, 1, 5), free(5)), [2])
        self.assertEqual(last(field(4, 4, 4), right(boxes=(15, 15, 15)), free(1)), [64])

    def test_somebodys_leave_for_all_variants(self):
        self.assertEqual(last(right(), free(5)), [0, 0])
        self.assertEqual(last(field(4, 4, 4), right(boxes=(15, 15, 15)), free(5)), [0, 0, 0, 0])

    def test_first_variant_that_is_not_free(self):
        self.assertEqual(last(right(boxes=(1,)), free(5)), [1, 0])
        self.assertEqual(last(right(boxes=(2,)), free(5)), [1, 1])
        before = [field(3, 2, 2), right(boxes=(4, 3, 3, 2, 2, 1, 2, 1, 2))]
        self.assertEqual(last(*before, free(5)), [6, 1, 0, 1])

    def test_the_first_feature_goes_before_the_others(self):
        before = [field(2, 3), right(boxes=(2, 1, 1, 4))]
        self.assertEqual(last(*before, free(5)), [4, 0, 2])

    def test_each_first_variant_of_a_field_of_64(self):
        for leaves in ((8, 8), (4, 2, 8), (2,) * 6):
            variants = list(itertools.product(*[range(many) for many in leaves]))
            self.assertEqual(len(variants), 64)
            for place in range(0, 64, 3):
                here = [2 ** leaf for leaf in variants[place]]
                end = [2 ** leaf for leaf in variants[63]]
                answer = last(field(*leaves), right(boxes=end + here), free(5))
                self.assertEqual(answer, [62 if place < 63 else 63, *variants[place]])

    def test_counts_also_behind_the_first_that_is_not_free(self):
        before = [field(5), right(boxes=(31,)), licence(1, 1, 5, box=(21,))]
        self.assertEqual(last(*before, free(5)), [3, 1])
        self.assertEqual(last(*before, free(6)), [0, 0])
        self.assertEqual(last(*before, free(1)), [5])

    def test_several_rights(self):
        before = [field(4), right(1, boxes=(3,)), right(2, boxes=(6,), owners=(2, 120))]
        self.assertEqual(last(*before, free(1)), [2, 1])
        self.assertEqual(last(*before, free(2)), [2, 0])
        self.assertEqual(last(*before, free(3)), [1, 0])

    def test_in_the_land(self):
        before = [right(lands=2), transfer(1, 1, 2, 120, lands=2, box=(2,))]
        self.assertEqual([last(*before, free(1, land=land)) for land in range(4)], [[2], [1, 1], [2], [2]])
        self.assertEqual([last(*before, free(2, land=land)) for land in range(4)], [[2], [1, 0], [2], [2]])

    def test_on_the_day(self):
        before = [right(first=3, last=9), licence(1, 1, 5, begin=4, to=6, recorded=5, box=(1,))]
        found = [last(*before, free(5, day=day)) for day in (2, 3, 4, 5, 6, 7, 9, 10)]
        self.assertEqual(found, [[2], [0, 0], [0, 0], [1, 1], [1, 1], [0, 0], [0, 0], [2]])

    def test_as_known(self):
        before = [right(), licence(1, 1, 5, known=4), annul(2, 1, known=8)]
        found = [last(*before, free(5, known=known)) for known in (3, 4, 7, 8)]
        self.assertEqual(found, [[0, 0], [2], [2], [0, 0]])

    def test_day_and_known_are_not_the_same(self):
        before = [right(), licence(1, 1, 5, known=8, recorded=4)]
        self.assertEqual(last(*before, free(5, day=4, known=8)), [2])
        self.assertEqual(last(*before, free(5, day=8, known=4)), [0, 0])

    def test_a_holder_bound_by_a_sole_licence(self):
        before = [field(3), right(boxes=(7,)), sole(1, 1, 5, box=(2,))]
        self.assertEqual(last(*before, free(1)), [2, 1])
        self.assertEqual(last(*before, free(5)), [1, 0])

    def test_is_what_leave_tells(self):
        before = [field(2, 3, 2), right(boxes=(1, 7, 3, 3, 2, 1), owners=(1, 60, 2, 60)),
                  right(2, boxes=(2, 6, 3), owners=(3, 120)), sole(1, 1, 4, box=(3, 3, 1)),
                  licence(2, 4, 5, box=(3, 7, 3)), transfer(3, 3, 5, 120, box=(3, 4, 3)),
                  licence(4, 2, 5, box=(1, 2, 3))]
        variants = list(itertools.product(range(2), range(3), range(2)))
        for person in range(1, 7):
            needed = [last(*before, leave(person, variant=variant)) != [0] for variant in variants]
            first = variants[needed.index(True)] if True in needed else ()
            self.assertEqual(last(*before, free(person)), [needed.count(False), *first], person)
