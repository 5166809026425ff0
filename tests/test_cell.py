"""The call holders, and "A cell" sentence by sentence."""

import itertools
import unittest

from tests.helper import (annul, asked, field, holders, last, licence, pledge, release, right, run, seize, sole,
                          transfer)

HALVES = right(owners=(1, 60, 2, 60))


def held(*deeds, of=None, **question):
    """Who holds what behind the deeds: parts by person."""
    answer = last(of or right(), *deeds, holders(**question))
    assert answer[0] == 0, answer
    return dict(zip(answer[1::2], answer[2::2]))


class HoldersCallTest(unittest.TestCase):

    def test_rising_persons(self):
        deeds = [transfer(1, 5, 20, 10), transfer(2, 5, 1, 10), transfer(3, 5, 7, 10)]
        self.assertEqual(last(right(owners=(5, 120)), *deeds, holders()), [0, 1, 10, 5, 90, 7, 10, 20, 10])

    def test_who_holds_none_is_not_told(self):
        self.assertEqual(last(HALVES, transfer(1, 1, 3, 60), holders()), [0, 2, 60, 3, 60])

    def test_whether_the_right_is_in_force_makes_no_difference(self):
        short = right(first=5, last=9)
        for day in (0, 4, 5, 9, 10, 100000):
            self.assertEqual(held(transfer(1, 1, 2, 30), of=short, day=day), {1: 90, 2: 30})

    def test_edges_of_ranges(self):
        for call in (holders(land=0), holders(land=3), holders(day=0), holders(day=100000), holders(known=0),
                     holders(known=100000), holders(variant=(0,)), holders(variant=(1,))):
            self.assertEqual(last(right(), call), [0, 1, 120])

    def test_out_of_range(self):
        for call in (holders(land=-1), holders(land=4), holders(day=-1), holders(day=100001), holders(known=-1),
                     holders(known=100001)):
            self.assertEqual(last(right(), call), [-3])

    def test_variant_of_wrong_form(self):
        for variant in ((), (-1,), (2,), (0, 0)):
            self.assertEqual(last(right(), holders(variant=variant)), [-4])
        for variant in ((0,), (3, 0), (0, 8), (-1, 0), (0, -1), (0, 0, 0)):
            self.assertEqual(last(field(3, 8), right(boxes=(7, 255)), holders(variant=variant)), [-4])

    def test_no_such_right(self):
        for number in (0, 2, 100, -1):
            self.assertEqual(last(right(), holders(of=number)), [-5])

    def test_no_cell_of_the_right(self):
        before = [field(2, 2), right(lands=5, boxes=(1, 1, 2, 2))]
        for land, variant in itertools.product(range(4), itertools.product(range(2), range(2))):
            is_cell = land in (0, 2) and variant in ((0, 0), (1, 1))
            self.assertEqual(last(*before, holders(land=land, variant=variant)), [0, 1, 120] if is_cell else [-7])

    def test_first_refusal_that_is_due(self):
        narrow = right(lands=1, boxes=(1,))
        self.assertEqual(last(narrow, holders(of=2, land=4, variant=(2,))), [-3])
        self.assertEqual(last(narrow, holders(of=2, land=1, variant=(2,))), [-4])
        self.assertEqual(last(narrow, holders(of=2, land=1, variant=(1,))), [-5])
        self.assertEqual(last(narrow, holders(of=1, land=1, variant=(1,))), [-7])

    def test_asking_changes_nothing(self):
        deeds = [right(), pledge(1, 1, 2, 30), seize(2, 1), holders(), holders(land=4), holders(of=2), holders()]
        self.assertEqual(run(*deeds)[3:], [[0, 1, 90, 2, 30], [-3], [-5], [0, 1, 90, 2, 30]])


class KnownTest(unittest.TestCase):

    def test_known_on_or_before(self):
        deed = transfer(1, 1, 2, 30, known=7)
        self.assertEqual(held(deed, known=6), {1: 120})
        self.assertEqual(held(deed, known=7), {1: 90, 2: 30})

    def test_annulled_by_what_is_known(self):
        deeds = [transfer(1, 1, 2, 30, known=3), annul(2, 1, known=7)]
        self.assertEqual(held(*deeds, known=2), {1: 120})
        self.assertEqual(held(*deeds, known=6), {1: 90, 2: 30})
        self.assertEqual(held(*deeds, known=7), {1: 120})

    def test_whenever_the_annulment_was_recorded(self):
        for recorded in (0, 5, 100000):
            deeds = [transfer(1, 1, 2, 30, recorded=5), annul(2, 1, recorded=recorded)]
            self.assertEqual(held(*deeds, day=5), {1: 120})
            self.assertEqual(held(*deeds), {1: 120})

    def test_an_annulment_known_before_its_deed(self):
        deeds = [transfer(1, 1, 2, 30, known=7), annul(2, 1, known=3)]
        for known in (2, 3, 7, 100000):
            self.assertEqual(held(*deeds, known=known), {1: 120})

    def test_two_annulments_of_a_deed(self):
        deeds = [transfer(1, 1, 2, 30), annul(2, 1, known=9), annul(3, 1, known=5)]
        self.assertEqual(held(*deeds, known=4), {1: 90, 2: 30})
        self.assertEqual(held(*deeds, known=5), {1: 120})
        self.assertEqual(held(*deeds, known=9), {1: 120})

    def test_an_annulment_annuls_that_deed_alone(self):
        deeds = [transfer(1, 1, 2, 30), transfer(2, 1, 3, 20), annul(3, 1)]
        self.assertEqual(held(*deeds), {1: 100, 3: 20})

    def test_an_annulled_release_and_an_annulled_seizure(self):
        locked = [pledge(1, 1, 2, 120), release(2, 1), transfer(4, 1, 3, 50)]
        self.assertEqual(held(*locked), {1: 70, 3: 50})
        self.assertEqual(held(*locked, annul(3, 2)), {1: 120})
        self.assertEqual(held(pledge(1, 1, 2, 50), seize(2, 1), annul(3, 2)), {1: 120})


class OrderTest(unittest.TestCase):

    def test_by_days_of_record_in_whatever_order_they_come(self):
        deeds = [transfer(1, 2, 3, 50, recorded=9), transfer(2, 1, 2, 30, recorded=5)]
        for order in (deeds, deeds[::-1]):
            self.assertEqual(held(*order), {1: 90, 3: 30})

    def test_days_of_record_go_before_numbers_and_days_known(self):
        deeds = [transfer(1, 2, 3, 50, recorded=5, known=1), transfer(2, 1, 2, 30, recorded=4, known=9)]
        self.assertEqual(held(*deeds), {1: 90, 3: 30})
        deeds = [transfer(1, 2, 3, 50, recorded=4, known=9), transfer(2, 1, 2, 30, recorded=5, known=1)]
        self.assertEqual(held(*deeds), {1: 90, 2: 30})

    def test_of_one_day_by_numbers(self):
        deeds = [transfer(9, 1, 2, 30), transfer(10, 2, 3, 50)]
        for order in (deeds, deeds[::-1]):
            self.assertEqual(held(*order), {1: 90, 3: 30})
        deeds = [transfer(10, 1, 2, 30), transfer(9, 2, 3, 50)]
        for order in (deeds, deeds[::-1]):
            self.assertEqual(held(*order), {1: 90, 2: 30})

    def test_on_a_day_those_recorded_on_or_before_it(self):
        deeds = [transfer(1, 1, 2, 30, recorded=5), transfer(2, 2, 3, 10, recorded=8)]
        self.assertEqual(held(*deeds, day=4), {1: 120})
        self.assertEqual(held(*deeds, day=5), {1: 90, 2: 30})
        self.assertEqual(held(*deeds, day=7), {1: 90, 2: 30})
        self.assertEqual(held(*deeds, day=8), {1: 90, 2: 20, 3: 10})

    def test_only_cells_that_are_covered(self):
        before = [field(2, 2), right(boxes=(3, 3)), transfer(1, 1, 2, 30, lands=6, box=(2, 3))]
        for land, variant in itertools.product(range(4), itertools.product(range(2), range(2))):
            expected = [0, 1, 90, 2, 30] if land in (1, 2) and variant[0] == 1 else [0, 1, 120]
            self.assertEqual(last(*before, holders(land=land, variant=variant)), expected)

    def test_a_pledge_a_release_and_a_seizure_work_where_the_pledge_covers(self):
        deeds = [pledge(1, 1, 2, 100, lands=1, box=(1,)), transfer(2, 1, 3, 50)]
        self.assertEqual(held(*deeds, land=0, variant=(0,)), {1: 100, 3: 20})
        self.assertEqual(held(*deeds, land=1, variant=(0,)), {1: 70, 3: 50})
        self.assertEqual(held(*deeds, land=0, variant=(1,)), {1: 70, 3: 50})
        deeds = [pledge(1, 1, 2, 100, lands=1, box=(1,)), seize(2, 1)]
        self.assertEqual(held(*deeds, land=0, variant=(0,)), {1: 20, 2: 100})
        self.assertEqual(held(*deeds, land=1, variant=(0,)), {1: 120})
        self.assertEqual(held(*deeds, land=0, variant=(1,)), {1: 120})

    def test_each_cell_for_itself(self):
        deeds = [transfer(1, 1, 2, 120, lands=1), transfer(2, 2, 3, 50)]
        self.assertEqual(held(*deeds, land=0), {2: 70, 3: 50})
        self.assertEqual(held(*deeds, land=1), {1: 120})

    def test_only_the_right_that_is_told(self):
        before = [right(), right(2), transfer(1, 1, 2, 30, of=2)]
        self.assertEqual(last(*before, holders(of=1)), [0, 1, 120])
        self.assertEqual(last(*before, holders(of=2)), [0, 1, 90, 2, 30])


class TransferTest(unittest.TestCase):

    def test_as_many_as_are_told_or_free(self):
        self.assertEqual(held(transfer(1, 1, 3, 59), of=HALVES), {1: 1, 2: 60, 3: 59})
        self.assertEqual(held(transfer(1, 1, 3, 60), of=HALVES), {2: 60, 3: 60})
        self.assertEqual(held(transfer(1, 1, 3, 61), of=HALVES), {2: 60, 3: 60})
        self.assertEqual(held(transfer(1, 1, 2, 120), of=HALVES), {2: 120})

    def test_locked_parts_are_not_free(self):
        deeds = [pledge(1, 1, 9, 100), transfer(2, 1, 2, 50)]
        self.assertEqual(held(*deeds), {1: 100, 2: 20})
        self.assertEqual(held(*deeds, transfer(3, 1, 2, 1)), {1: 100, 2: 20})

    def test_parts_locked_of_another_do_not_count(self):
        self.assertEqual(held(pledge(1, 2, 1, 60), transfer(2, 1, 3, 60), of=HALVES), {2: 60, 3: 60})

    def test_parts_that_come_are_free_beside_locked_ones(self):
        deeds = [pledge(1, 1, 9, 60), transfer(2, 2, 1, 25), transfer(3, 1, 3, 120)]
        self.assertEqual(held(*deeds, of=HALVES), {1: 60, 2: 35, 3: 25})

    def test_to_oneself(self):
        self.assertEqual(held(transfer(1, 1, 1, 120)), {1: 120})
        self.assertEqual(held(pledge(1, 1, 9, 100), transfer(2, 1, 1, 120), transfer(3, 1, 2, 120)), {1: 100, 2: 20})
        self.assertEqual(held(transfer(1, 5, 5, 10)), {1: 120})

    def test_who_holds_nothing_gives_nothing(self):
        self.assertEqual(held(transfer(1, 5, 6, 10)), {1: 120})

    def test_taker_is_bound_by_what_binds_the_giver(self):
        deeds = [licence(1, 1, 5), transfer(2, 1, 2, 1)]
        self.assertEqual(asked(5, *deeds), [])
        self.assertEqual(asked(6, *deeds), [1, 2])

    def test_bound_by_each_licence(self):
        deeds = [licence(1, 1, 5), licence(2, 1, 6), licence(3, 1, 7, lands=2), transfer(4, 1, 2, 120)]
        self.assertEqual([asked(person, *deeds) for person in (5, 6, 7)], [[], [], [2]])

    def test_bound_through_several_hands(self):
        deeds = [licence(1, 1, 5), transfer(2, 1, 2, 120), transfer(3, 2, 3, 120), transfer(4, 3, 4, 120)]
        self.assertEqual(asked(5, *deeds), [])
        self.assertEqual(asked(6, *deeds), [4])

    def test_bound_whatever_the_days_of_the_licence(self):
        deeds = [licence(1, 1, 5, begin=50, to=60), transfer(2, 1, 2, 120, recorded=5)]
        self.assertEqual(asked(5, *deeds, day=5), [2])
        self.assertEqual(asked(5, *deeds, day=50), [])

    def test_a_later_licence_does_not_bind_the_taker(self):
        deeds = [transfer(1, 1, 2, 60), licence(2, 1, 5)]
        self.assertEqual(asked(5, *deeds), [2])

    def test_not_bound_by_what_binds_others(self):
        deeds = [licence(1, 1, 5), transfer(2, 2, 3, 60)]
        self.assertEqual(asked(5, *deeds, of=HALVES), [3])

    def test_not_bound_if_nothing_goes(self):
        deeds = [licence(1, 1, 5), pledge(2, 1, 9, 60), transfer(3, 1, 2, 10)]
        self.assertEqual(asked(5, *deeds, of=HALVES), [2])
        gone = [licence(1, 1, 5), transfer(2, 1, 3, 60), transfer(3, 1, 2, 10)]
        self.assertEqual(asked(5, *gone, of=HALVES), [2])

    def test_the_giver_is_not_bound_by_what_binds_the_taker(self):
        deeds = [licence(1, 2, 5), transfer(2, 1, 2, 10)]
        self.assertEqual(asked(5, *deeds, of=HALVES), [1])


class LicenceTest(unittest.TestCase):

    def test_changes_no_parts(self):
        self.assertEqual(held(licence(1, 1, 5), sole(2, 1, 6)), {1: 120})

    def test_binds_a_giver_who_holds_parts(self):
        self.assertEqual(asked(5, licence(1, 1, 5)), [])

    def test_binds_nobody_if_the_giver_holds_none(self):
        deeds = [licence(1, 2, 5), transfer(2, 1, 2, 120)]
        self.assertEqual(asked(5, *deeds), [2])

    def test_binds_a_giver_whose_parts_are_all_locked(self):
        self.assertEqual(asked(5, pledge(1, 1, 9, 120), licence(2, 1, 5)), [])

    def test_binds_not_the_other_holders(self):
        self.assertEqual(asked(5, licence(1, 1, 5), of=HALVES), [2])

    def test_binds_where_it_covers(self):
        deeds = [licence(1, 1, 5, lands=2, box=(2,))]
        self.assertEqual(asked(5, *deeds, land=1, variant=(1,)), [])
        self.assertEqual(asked(5, *deeds, land=0, variant=(1,)), [1])
        self.assertEqual(asked(5, *deeds, land=1, variant=(0,)), [1])

    def test_whoever_is_bound_stays_bound(self):
        deeds = [licence(1, 1, 5), transfer(2, 1, 3, 60), transfer(3, 2, 1, 60)]
        self.assertEqual(held(*deeds, of=HALVES), {1: 60, 3: 60})
        self.assertEqual(asked(5, *deeds, of=HALVES), [])

    def test_binds_once(self):
        deeds = [licence(1, 1, 5), transfer(2, 1, 2, 60), transfer(3, 2, 1, 30), transfer(4, 1, 2, 10)]
        self.assertEqual(held(*deeds), {1: 80, 2: 40})
        self.assertEqual(asked(5, *deeds), [])


class PledgeTest(unittest.TestCase):

    def test_parts_stay_with_the_giver(self):
        self.assertEqual(held(pledge(1, 1, 2, 50)), {1: 120})
        self.assertEqual(asked(1, pledge(1, 1, 2, 120)), [])
        self.assertEqual(asked(2, pledge(1, 1, 2, 120)), [1])

    def test_locks_as_many_as_are_free(self):
        deeds = [pledge(1, 1, 8, 100), pledge(2, 1, 9, 50)]
        self.assertEqual(held(*deeds, transfer(3, 1, 2, 120)), {1: 120})
        self.assertEqual(held(*deeds, seize(3, 2)), {1: 100, 9: 20})
        self.assertEqual(held(*deeds, seize(3, 1)), {1: 20, 8: 100})
        self.assertEqual(held(*deeds, seize(3, 1), seize(4, 2)), {8: 100, 9: 20})

    def test_of_one_part(self):
        deeds = [pledge(1, 1, 9, 1), transfer(2, 1, 2, 120)]
        self.assertEqual(held(*deeds), {1: 1, 2: 119})
        self.assertEqual(held(*deeds, seize(3, 1)), {2: 119, 9: 1})
        self.assertEqual(held(pledge(1, 1, 8, 119), pledge(2, 1, 9, 120), seize(3, 2)), {1: 119, 9: 1})

    def test_locks_no_more_when_more_comes_free(self):
        deeds = [pledge(1, 1, 9, 100), transfer(2, 2, 1, 60), transfer(3, 1, 3, 120)]
        self.assertEqual(held(*deeds, of=HALVES), {1: 60, 3: 60})
        self.assertEqual(held(*deeds, seize(4, 1), of=HALVES), {3: 60, 9: 60})

    def test_to_oneself(self):
        deeds = [pledge(1, 1, 1, 100), transfer(2, 1, 2, 120)]
        self.assertEqual(held(*deeds), {1: 100, 2: 20})
        self.assertEqual(held(*deeds, seize(3, 1)), {1: 100, 2: 20})
        self.assertEqual(held(*deeds, seize(3, 1), transfer(4, 1, 3, 120)), {2: 20, 3: 100})


class ReleaseTest(unittest.TestCase):

    def test_nothing_is_locked_any_more(self):
        deeds = [pledge(1, 1, 9, 100), release(2, 1), transfer(3, 1, 2, 120)]
        self.assertEqual(held(*deeds), {2: 120})

    def test_the_pledge_that_is_told_alone(self):
        deeds = [pledge(1, 1, 9, 50), pledge(2, 1, 8, 40), release(3, 1), transfer(4, 1, 2, 120)]
        self.assertEqual(held(*deeds), {1: 40, 2: 80})

    def test_before_the_pledge_has_locked(self):
        deeds = [pledge(2, 1, 9, 100, recorded=5), release(1, 2, recorded=4), transfer(3, 1, 2, 120, recorded=6)]
        self.assertEqual(held(*deeds), {1: 100, 2: 20})
        deeds = [pledge(2, 1, 9, 100), release(1, 2), transfer(3, 1, 2, 120)]
        self.assertEqual(held(*deeds), {1: 100, 2: 20})

    def test_of_a_pledge_that_locks_no_more(self):
        deeds = [pledge(1, 1, 9, 50), seize(2, 1), pledge(3, 9, 8, 50), release(4, 1), transfer(5, 9, 2, 50)]
        self.assertEqual(held(*deeds), {1: 70, 9: 50})
        self.assertEqual(held(pledge(1, 1, 9, 50), release(2, 1), release(3, 1)), {1: 120})

    def test_of_a_pledge_that_does_not_count(self):
        deeds = [pledge(1, 1, 9, 50, known=7), release(2, 1, known=3), transfer(3, 1, 2, 120)]
        self.assertEqual(held(*deeds, known=6), {2: 120})
        self.assertEqual(held(*deeds, known=7), {2: 120})


class SeizureTest(unittest.TestCase):

    def test_what_is_locked_goes_to_the_creditor(self):
        self.assertEqual(held(pledge(1, 1, 9, 50), seize(2, 1)), {1: 70, 9: 50})
        self.assertEqual(held(pledge(1, 1, 2, 60), seize(2, 1), of=HALVES), {2: 120})

    def test_it_is_locked_no_more(self):
        deeds = [pledge(1, 1, 9, 50), seize(2, 1), transfer(3, 9, 2, 50), transfer(4, 1, 3, 120)]
        self.assertEqual(held(*deeds), {2: 50, 3: 70})

    def test_others_stay_locked(self):
        deeds = [pledge(1, 1, 9, 50), pledge(2, 1, 8, 40), seize(3, 1), transfer(4, 1, 2, 120)]
        self.assertEqual(held(*deeds), {1: 40, 2: 30, 9: 50})

    def test_no_more_than_is_locked(self):
        deeds = [transfer(1, 1, 2, 90), pledge(2, 1, 9, 100), transfer(3, 2, 1, 50), seize(4, 2)]
        self.assertEqual(held(*deeds), {1: 50, 2: 40, 9: 30})

    def test_twice(self):
        self.assertEqual(held(pledge(1, 1, 9, 50), seize(2, 1), seize(3, 1)), {1: 70, 9: 50})

    def test_before_the_pledge_has_locked(self):
        deeds = [pledge(2, 1, 9, 50, recorded=5), seize(1, 2, recorded=4), transfer(3, 1, 2, 120, recorded=6)]
        self.assertEqual(held(*deeds), {1: 50, 2: 70})
        self.assertEqual(held(pledge(2, 1, 9, 50), seize(1, 2)), {1: 120})

    def test_behind_a_release(self):
        self.assertEqual(held(pledge(1, 1, 9, 50), release(2, 1), seize(3, 1)), {1: 120})

    def test_of_a_pledge_that_locked_nothing(self):
        deeds = [pledge(1, 2, 9, 50), transfer(2, 1, 2, 60), seize(3, 1)]
        self.assertEqual(held(*deeds), {1: 60, 2: 60})

    def test_of_a_pledge_that_does_not_count(self):
        deeds = [pledge(1, 1, 9, 50, known=7), seize(2, 1, known=3)]
        self.assertEqual(held(*deeds, known=6), {1: 120})
        self.assertEqual(held(*deeds, known=7), {1: 70, 9: 50})
        self.assertEqual(held(pledge(1, 1, 9, 50), seize(2, 1), annul(3, 1)), {1: 120})

    def test_the_creditor_is_bound_as_by_a_transfer(self):
        deeds = [pledge(1, 1, 9, 120), licence(2, 1, 5), seize(3, 1)]
        self.assertEqual(asked(5, *deeds), [])
        self.assertEqual(asked(6, *deeds), [9])
        self.assertEqual(asked(9, pledge(1, 1, 9, 120), sole(2, 1, 5), seize(3, 1)), [5])

    def test_the_creditor_is_not_bound_if_nothing_goes(self):
        nothing = [licence(1, 1, 5), pledge(2, 1, 8, 60), pledge(3, 1, 2, 60), seize(4, 3)]
        self.assertEqual(asked(5, *nothing, of=HALVES), [2])
        released = [licence(1, 1, 5), pledge(2, 1, 2, 60), release(3, 2), seize(4, 2)]
        self.assertEqual(asked(5, *released, of=HALVES), [2])
        early = [licence(1, 1, 5), pledge(3, 1, 2, 60), seize(2, 3)]
        self.assertEqual(asked(5, *early, of=HALVES), [2])

    def test_a_licence_behind_it_does_not_bind_the_creditor(self):
        self.assertEqual(asked(5, pledge(1, 1, 9, 60), seize(2, 1), licence(3, 1, 5)), [9])
