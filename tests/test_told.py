"""The calls deeds and told."""

import itertools
import unittest

from tests.helper import (all_deeds, annul, field, last, licence, pledge, release, right, run, seize, sole, told,
                          transfer)


class DeedsTest(unittest.TestCase):

    def test_no_deed(self):
        self.assertEqual(run(all_deeds()), [[0]])
        self.assertEqual(run(right(), all_deeds()), [[1], [0]])

    def test_in_the_order_in_which_they_work(self):
        deeds = [transfer(5, 1, 2, 1, recorded=7), licence(900, 1, 2, recorded=3), pledge(30, 1, 2, 1, recorded=7),
                 transfer(2, 1, 2, 1, recorded=9), licence(31, 1, 2, recorded=7)]
        for order in itertools.permutations(deeds):
            self.assertEqual(last(right(), *order, all_deeds()), [0, 900, 5, 30, 31, 2])

    def test_days_known_make_no_difference(self):
        deeds = [transfer(1, 1, 2, 1, known=9, recorded=2), transfer(2, 1, 2, 1, known=100000, recorded=1)]
        self.assertEqual(last(right(), *deeds, all_deeds()), [0, 2, 1])

    def test_numbers_go_by_their_size(self):
        deeds = [transfer(k, 1, 2, 1) for k in (10, 9, 100, 999, 1)]
        self.assertEqual(last(right(), *deeds, all_deeds()), [0, 1, 9, 10, 100, 999])

    def test_each_kind_also_annulments_and_annulled_ones(self):
        deeds = [pledge(8, 1, 2, 1, recorded=4), release(7, 8, recorded=5), seize(6, 8, recorded=4),
                 annul(5, 8, recorded=3), annul(9, 6, recorded=4), sole(4, 1, 2, recorded=4)]
        self.assertEqual(last(right(), *deeds, all_deeds()), [0, 5, 4, 6, 8, 9, 7])

    def test_of_all_rights_and_cells(self):
        before = [right(1, lands=1), right(2, boxes=(2,))]
        deeds = [transfer(3, 1, 2, 1, of=2), transfer(2, 1, 2, 1, lands=8), transfer(1, 7, 2, 1, box=(1,), of=2)]
        self.assertEqual(last(*before, *deeds, all_deeds()), [0, 1, 2, 3])

    def test_a_refused_deed_is_not_there(self):
        calls = [right(), transfer(1, 1, 2, 1, recorded=5), transfer(1, 1, 2, 1, recorded=2), transfer(2, 0, 2, 1),
                 release(3, 1), all_deeds()]
        self.assertEqual(run(*calls)[1:], [[1], [-6], [-3], [-5], [0, 1]])

    def test_sixty(self):
        deeds = [transfer(k, 1, 2, 1, recorded=100 - k) for k in range(1, 61)]
        self.assertEqual(last(right(), *deeds, all_deeds()), [0, *range(60, 0, -1)])

    def test_a_new_field_has_none(self):
        self.assertEqual(last(right(), transfer(1, 1, 2, 1), field(2), all_deeds()), [0])


class ToldTest(unittest.TestCase):

    def test_transfer(self):
        deed = transfer(7, 3, 4, 50, known=8, recorded=6, lands=9, box=(2,))
        self.assertEqual(last(right(), deed, told(7)), [0, 8, 6, 1, 3, 4, 50, 0, 0, 0, 9, 0, 2])

    def test_licence(self):
        rest = {"begin": 11, "to": 22, "known": 8, "recorded": 6, "of": 12, "lands": 5, "box": (1,)}
        self.assertEqual(last(right(12), licence(7, 3, 4, **rest), told(7)), [1, 8, 6, 12, 3, 4, 0, 0, 11, 22, 5, 0, 1])
        self.assertEqual(last(right(12), sole(7, 3, 4, **rest), told(7)), [1, 8, 6, 12, 3, 4, 0, 1, 11, 22, 5, 0, 1])

    def test_pledge(self):
        deed = pledge(7, 3, 4, 50, known=8, recorded=6, lands=9, box=(3,))
        self.assertEqual(last(right(), deed, told(7)), [2, 8, 6, 1, 3, 4, 50, 0, 0, 0, 9, 0, 3])

    def test_release_seizure_and_annulment(self):
        for make, kind in ((release, 3), (seize, 4), (annul, 5)):
            deeds = [right(), pledge(7, 3, 4, 50), make(9, 7, known=8, recorded=6)]
            self.assertEqual(last(*deeds, told(9)), [kind, 8, 6, 0, 0, 0, 0, 0, 0, 0, 0, 7])

    def test_a_box_of_several_features(self):
        before = [field(2, 3, 1, 4), right(boxes=(1, 1, 1, 1))]
        deeds = [transfer(1, 1, 2, 5, box=(3, 6, 1, 9)), licence(2, 1, 2, box=(2, 4, 1, 8)),
                 pledge(3, 1, 2, 5, box=(1, 7, 1, 15)), release(4, 3)]
        found = run(*before, *deeds, told(1), told(2), told(3), told(4))[6:]
        self.assertEqual([answer[12:] for answer in found], [[3, 6, 1, 9], [2, 4, 1, 8], [1, 7, 1, 15], []])

    def test_edges_of_ranges(self):
        deed = transfer(999, 20, 20, 120, known=100000, recorded=100000, of=99, lands=15)
        self.assertEqual(last(right(99), deed, told(999)), [0, 100000, 100000, 99, 20, 20, 120, 0, 0, 0, 15, 0, 3])
        deed = licence(1, 1, 1, begin=100000, to=0, lands=1, box=(1,))
        self.assertEqual(last(right(), deed, told(1)), [1, 0, 0, 1, 1, 1, 0, 0, 100000, 0, 1, 0, 1])

    def test_an_annulled_deed_is_told_as_it_stands(self):
        deed = transfer(7, 3, 4, 50, known=8, recorded=6)
        self.assertEqual(last(right(), deed, annul(8, 7), told(7)), last(right(), deed, told(7)))

    def test_parts_are_told_whether_they_went_or_not(self):
        self.assertEqual(last(right(), transfer(1, 5, 6, 120), told(1))[6], 120)

    def test_no_such_deed(self):
        self.assertEqual(last(right(), transfer(1, 1, 2, 5), told(2)), [-5])
        self.assertEqual(run(right(), transfer(1, 1, 2, 5), field(2), told(1))[-1], [-5])
