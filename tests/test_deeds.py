"""The calls transfer, licence, pledge, release, seize and annul: what they answer and refuse."""

import unittest

from tests.helper import annul, field, holders, last, leave, licence, pledge, release, right, run, seize, transfer

# Deeds 1 to 6, one of each kind.
ONE_OF_EACH = (transfer(1, 1, 2, 10), licence(2, 1, 3), pledge(3, 1, 4, 10), release(4, 3), seize(5, 3), annul(6, 1))
DEEDS = (right(),) + ONE_OF_EACH
FULL = (right(),) + ONE_OF_EACH + tuple(transfer(k, 1, 2, 1) for k in range(7, 61))

# Where each whole number stands in a call, and the first and last of its range.
DAYS = ((2, 0, 100000), (3, 0, 100000))
NUMBER = ((1, 1, 999),)
PERSONS = ((5, 1, 20), (6, 1, 20))
PARTS_RANGES = NUMBER + DAYS + PERSONS + ((7, 1, 120), (8, 1, 15))
LICENCE_RANGES = NUMBER + DAYS + PERSONS + ((7, 0, 1), (8, 0, 100000), (9, 0, 100000), (10, 1, 15))
GRANTS = ((transfer(50, 1, 2, 5), PARTS_RANGES), (licence(50, 1, 2), LICENCE_RANGES),
          (pledge(50, 1, 2, 5), PARTS_RANGES))
ABOUT = ((release(50, 3), NUMBER + DAYS), (seize(50, 3), NUMBER + DAYS), (annul(50, 3), NUMBER + DAYS))
ALL = GRANTS + ABOUT


def changed(call, place, number):
    return call[:place] + [number] + call[place + 1:]


def probes():
    shown = [holders(land=land, day=day, variant=(leaf,)) for land in (0, 3) for day in (0, 9) for leaf in (0, 1)]
    shown += [leave(person, day=day) for person in (1, 3, 9) for day in (0, 9)]
    return shown + [transfer(900, 1, 2, 1), right(90)]


class DoneTest(unittest.TestCase):

    def test_answers_how_many_deeds(self):
        self.assertEqual(run(*DEEDS), [[1], [1], [2], [3], [4], [5], [6]])

    def test_sixty_deeds(self):
        self.assertEqual(run(*FULL)[1:], [[many] for many in range(1, 61)])
        for call, ranges in ALL:
            self.assertEqual(last(*FULL, changed(call, 1, 61)), [-9], call)
            self.assertEqual(last(*FULL[:-1], changed(call, 1, 61)), [60], call)

    def test_edges_of_ranges(self):
        for call, ranges in ALL:
            for place, low, high in ranges:
                for number in (low, high):
                    if place == 1 and number == 1:
                        before = [right(), pledge(3, 1, 2, 1)]
                    else:
                        before = DEEDS
                    answer = last(*before, changed(call, place, number))
                    self.assertEqual(answer, [len(before)], (call, place, number))

    def test_giver_and_taker_may_be_the_same(self):
        for call, ranges in GRANTS:
            self.assertEqual(last(*DEEDS, changed(call, 6, call[5])), [7])

    def test_licence_that_holds_no_day(self):
        self.assertEqual(last(*DEEDS, licence(50, 1, 2, begin=5, to=4)), [7])

    def test_a_giver_who_holds_nothing(self):
        self.assertEqual(last(right(), transfer(1, 9, 2, 5)), [1])
        self.assertEqual(last(right(), licence(1, 9, 2)), [1])
        self.assertEqual(last(right(), pledge(1, 9, 2, 5)), [1])

    def test_a_deed_that_covers_no_cell(self):
        narrow = right(lands=1, boxes=(1,))
        self.assertEqual(run(narrow, transfer(1, 1, 2, 5, lands=2), transfer(2, 1, 2, 5, box=(2,)), holders()),
                         [[1], [1], [2], [0, 1, 120]])

    def test_a_deed_may_be_released_seized_or_annulled_several_times(self):
        before = [right(), pledge(1, 1, 2, 5)]
        for again in (release, seize, annul):
            self.assertEqual(run(*before, again(2, 1), again(3, 1))[2:], [[2], [3]])


class RefusedTest(unittest.TestCase):

    def check(self, before, call, refusal):
        """The refusal is answered, and all is as if the call had not been."""
        before = list(before)
        found = run(*before, call, *probes())
        self.assertEqual(found[len(before)], [refusal], call)
        self.assertEqual(found[:len(before)] + found[len(before) + 1:], run(*before, *probes()), call)

    def test_out_of_range(self):
        for call, ranges in ALL:
            for place, low, high in ranges:
                for number in (low - 1, high + 1):
                    self.check(DEEDS, changed(call, place, number), -3)

    def test_box_of_wrong_form(self):
        for call, ranges in GRANTS:
            for box in ([1, 0], [1, 4], [1, -1], [0], [2, 1, 1]):
                self.check(DEEDS, call[:-2] + box, -4)

    def test_box_of_several_features(self):
        before = [field(3, 8), right(boxes=(7, 255))]
        for call, ranges in GRANTS:
            for box in ([2, 7, 255], [2, 1, 1]):
                self.assertEqual(last(*before, call[:-2] + box), [1])
            for box in ([1, 7], [2, 8, 1], [2, 1, 256], [2, 0, 1], [2, 1, 0], [3, 1, 1, 1], [4, 1, 1, 1, 1]):
                self.assertEqual(last(*before, call[:-2] + box), [-4])

    def test_no_such_right(self):
        for call, ranges in GRANTS:
            for number in (0, 2, -1, 99, 100):
                self.check(DEEDS, changed(call, 4, number), -5)

    def test_no_such_deed(self):
        for call, ranges in ABOUT:
            for number in (0, 7, 50, -3, 1000):
                self.check(DEEDS, changed(call, 4, number), -5)

    def test_only_a_pledge_is_released_or_seized(self):
        for make in (release, seize):
            for deed in (1, 2, 4, 5, 6):
                self.check(DEEDS, make(50, deed), -5)
            self.assertEqual(last(*DEEDS, make(50, 3)), [7])

    def test_all_but_annulments_are_annulled(self):
        for deed in (1, 2, 3, 4, 5):
            self.assertEqual(last(*DEEDS, annul(50, deed)), [7])
        self.check(DEEDS, annul(50, 6), -5)

    def test_an_annulled_pledge_is_still_there(self):
        before = [right(), pledge(1, 1, 2, 5), annul(2, 1)]
        for make in (release, seize, annul):
            self.assertEqual(last(*before, make(3, 1)), [3])
        self.assertEqual(last(*before, pledge(1, 1, 2, 5)), [-6])

    def test_there_already(self):
        for call, ranges in ALL:
            for number in range(1, 7):
                self.check(DEEDS, changed(call, 1, number), -6)

    def test_too_many(self):
        for call, ranges in ALL:
            found = run(*FULL, changed(call, 1, 61), holders(), leave(9))
            self.assertEqual(found[-3], [-9])
            self.assertEqual(found[-2:], run(*FULL, holders(), leave(9))[-2:])

    def test_first_refusal_that_is_due(self):
        for call, ranges in GRANTS:
            there = changed(call, 1, 1)
            no_right = changed(there, 4, 2)
            bad_box = no_right[:-1] + [4]
            self.assertEqual(last(*FULL, there), [-6])
            self.assertEqual(last(*FULL, no_right), [-5])
            self.assertEqual(last(*FULL, bad_box), [-4])
            for place, low, high in ranges:
                self.assertEqual(last(*FULL, changed(bad_box, place, low - 1)), [-3])
        for call, ranges in ABOUT:
            there = changed(call, 1, 1)
            no_deed = changed(there, 4, 61)
            self.assertEqual(last(*FULL, there), [-6])
            self.assertEqual(last(*FULL, no_deed), [-5])
            for place, low, high in ranges:
                self.assertEqual(last(*FULL, changed(no_deed, place, high + 1)), [-3])

    def test_a_deed_about_itself(self):
        for make in (release, seize, annul):
            self.assertEqual(last(*DEEDS, make(50, 50)), [-5])
