"""The calls locks and bound."""

import itertools
import unittest

from tests.helper import (annul, bound, field, holders, last, licence, locks, pledge, release, right, run, seize, sole,
                          transfer)

HALVES = right(owners=(1, 60, 2, 60))


def locked(*deeds, of=None, **question):
    """The locks behind the deeds: pledge, giver, taker, parts."""
    answer = last(of or right(), *deeds, locks(**question))
    assert answer[0] == 0 and len(answer) % 4 == 1, answer
    return [tuple(answer[at:at + 4]) for at in range(1, len(answer), 4)]


def bonds(*deeds, of=None, **question):
    """Who is bound behind the deeds: licence, person."""
    answer = last(of or right(), *deeds, bound(**question))
    assert answer[0] == 0 and len(answer) % 2 == 1, answer
    return [tuple(answer[at:at + 2]) for at in range(1, len(answer), 2)]


class CellTest(unittest.TestCase):

    def test_no_cell_of_the_right(self):
        before = [field(2, 2), right(lands=5, boxes=(1, 1, 2, 2)), pledge(1, 1, 2, 5, box=(3, 3)),
                  licence(2, 1, 3, box=(3, 3))]
        for land, variant in itertools.product(range(4), itertools.product(range(2), range(2))):
            is_cell = land in (0, 2) and variant in ((0, 0), (1, 1))
            found = run(*before, locks(land=land, variant=variant), bound(land=land, variant=variant))[-2:]
            self.assertEqual(found, [[0, 1, 1, 2, 5], [0, 2, 1]] if is_cell else [[-7], [-7]])

    def test_nothing_locked_and_nobody_bound(self):
        self.assertEqual(run(right(), locks(), bound())[1:], [[0], [0]])
        self.assertEqual(run(right(), transfer(1, 1, 2, 5), locks(), bound())[2:], [[0], [0]])

    def test_whether_the_right_is_in_force_makes_no_difference(self):
        for day in (4, 5, 9, 10):
            found = run(right(first=5, last=9), pledge(1, 1, 2, 5), licence(2, 1, 3), locks(day=day), bound(day=day))
            self.assertEqual(found[3:], [[0, 1, 1, 2, 5], [0, 2, 1]])

    def test_only_where_the_deed_covers(self):
        deeds = [pledge(1, 1, 2, 5, lands=2, box=(2,)), licence(2, 1, 3, lands=2, box=(2,))]
        self.assertEqual(locked(*deeds, land=1, variant=(1,)), [(1, 1, 2, 5)])
        self.assertEqual(bonds(*deeds, land=1, variant=(1,)), [(2, 1)])
        for place in ({"land": 0, "variant": (1,)}, {"land": 1, "variant": (0,)}):
            self.assertEqual(locked(*deeds, **place), [])
            self.assertEqual(bonds(*deeds, **place), [])

    def test_of_the_right_that_is_told(self):
        before = [right(1), right(2), pledge(1, 1, 2, 5, of=2), licence(2, 1, 3, of=2)]
        self.assertEqual(run(*before, locks(of=1), bound(of=1), locks(of=2), bound(of=2))[4:],
                         [[0], [0], [0, 1, 1, 2, 5], [0, 2, 1]])

    def test_on_the_day_as_known(self):
        deeds = [pledge(1, 1, 2, 5, known=8, recorded=4), licence(2, 1, 3, known=8, recorded=4)]
        deeds += [annul(3, 1, known=9), annul(4, 2, known=9)]
        self.assertEqual(locked(*deeds, day=4, known=8), [(1, 1, 2, 5)])
        self.assertEqual(bonds(*deeds, day=4, known=8), [(2, 1)])
        for days in ({"day": 3, "known": 8}, {"day": 8, "known": 7}, {"day": 8, "known": 9}):
            self.assertEqual(locked(*deeds, **days), [])
            self.assertEqual(bonds(*deeds, **days), [])


class LocksTest(unittest.TestCase):

    def test_as_many_as_are_told_or_free(self):
        self.assertEqual(locked(pledge(7, 1, 9, 59), of=HALVES), [(7, 1, 9, 59)])
        self.assertEqual(locked(pledge(7, 1, 9, 61), of=HALVES), [(7, 1, 9, 60)])
        self.assertEqual(locked(pledge(7, 1, 8, 50), pledge(8, 1, 9, 50), of=HALVES), [(7, 1, 8, 50), (8, 1, 9, 10)])

    def test_a_pledge_that_locks_nothing(self):
        self.assertEqual(locked(pledge(7, 3, 9, 5)), [])
        self.assertEqual(locked(pledge(7, 1, 9, 120), pledge(8, 1, 9, 5)), [(7, 1, 9, 120)])

    def test_in_the_order_in_which_they_worked(self):
        deeds = [pledge(5, 1, 6, 10, recorded=4), pledge(9, 2, 7, 11, recorded=2), pledge(3, 1, 8, 12, recorded=4),
                 pledge(1, 2, 9, 13, recorded=7)]
        for order in itertools.permutations(deeds):
            self.assertEqual(locked(*order, of=HALVES), [(9, 2, 7, 11), (3, 1, 8, 12), (5, 1, 6, 10), (1, 2, 9, 13)])

    def test_a_release_and_a_seizure_unlock(self):
        before = [pledge(1, 1, 8, 10), pledge(2, 1, 9, 20), pledge(3, 1, 7, 30)]
        for again in (release, seize):
            self.assertEqual(locked(*before, again(4, 1)), [(2, 1, 9, 20), (3, 1, 7, 30)])
            self.assertEqual(locked(*before, again(4, 2)), [(1, 1, 8, 10), (3, 1, 7, 30)])
            self.assertEqual(locked(*before, again(4, 1), again(5, 2), again(6, 3)), [])

    def test_a_release_that_works_before_the_pledge(self):
        for again in (release, seize):
            self.assertEqual(locked(pledge(5, 1, 9, 10), again(4, 5)), [(5, 1, 9, 10)])

    def test_a_release_of_a_later_day(self):
        for again in (release, seize):
            deeds = [pledge(1, 1, 9, 10, recorded=3), again(2, 1, recorded=6)]
            self.assertEqual([len(locked(*deeds, day=day)) for day in (2, 3, 5, 6)], [0, 1, 1, 0])

    def test_an_annulled_release(self):
        deeds = [pledge(1, 1, 9, 10), release(2, 1), annul(3, 2, known=5)]
        self.assertEqual(locked(*deeds, known=4), [])
        self.assertEqual(locked(*deeds, known=5), [(1, 1, 9, 10)])

    def test_what_comes_later_is_not_locked(self):
        deeds = [pledge(1, 1, 9, 100), transfer(2, 2, 1, 60)]
        self.assertEqual(locked(*deeds, of=HALVES), [(1, 1, 9, 60)])

    def test_seized_parts_are_free_to_be_pledged(self):
        deeds = [pledge(1, 1, 9, 50), seize(2, 1), pledge(3, 9, 8, 120)]
        self.assertEqual(locked(*deeds), [(3, 9, 8, 50)])

    def test_to_oneself(self):
        self.assertEqual(locked(pledge(1, 1, 1, 50)), [(1, 1, 1, 50)])
        self.assertEqual(locked(pledge(1, 1, 1, 50), seize(2, 1)), [])

    def test_locked_parts_stay_when_the_free_ones_go(self):
        deeds = [pledge(1, 1, 9, 50), transfer(2, 1, 3, 120)]
        self.assertEqual(locked(*deeds), [(1, 1, 9, 50)])
        self.assertEqual(last(right(), *deeds, holders()), [0, 1, 50, 3, 70])


class BoundTest(unittest.TestCase):

    def test_the_giver(self):
        self.assertEqual(bonds(licence(7, 1, 5)), [(7, 1)])
        self.assertEqual(bonds(sole(7, 1, 5)), [(7, 1)])
        self.assertEqual(bonds(licence(7, 1, 1)), [(7, 1)])
        self.assertEqual(bonds(licence(7, 3, 5)), [])

    def test_whatever_its_days_are(self):
        self.assertEqual(bonds(licence(7, 1, 5, begin=9, to=2)), [(7, 1)])
        self.assertEqual(bonds(licence(7, 1, 5, begin=50, to=60), day=0), [(7, 1)])

    def test_in_the_order_in_which_the_licences_worked(self):
        deeds = [licence(5, 1, 6, recorded=4), sole(9, 2, 7, recorded=2), licence(3, 1, 8, recorded=4),
                 licence(1, 2, 9, recorded=7)]
        for order in itertools.permutations(deeds):
            self.assertEqual(bonds(*order, of=HALVES), [(9, 2), (3, 1), (5, 1), (1, 2)])

    def test_the_taker_of_parts(self):
        deeds = [licence(1, 1, 5), transfer(2, 1, 3, 10)]
        self.assertEqual(bonds(*deeds), [(1, 1), (1, 3)])
        self.assertEqual(bonds(*deeds, transfer(3, 3, 4, 10)), [(1, 1), (1, 3), (1, 4)])

    def test_licences_and_transfers_by_turns(self):
        deeds = [licence(1, 1, 5), transfer(2, 1, 3, 10), licence(3, 1, 6), licence(4, 3, 6), transfer(5, 1, 4, 10)]
        self.assertEqual(bonds(*deeds), [(1, 1), (1, 3), (3, 1), (4, 3), (1, 4), (3, 4)])

    def test_several_at_once_in_the_order_in_which_the_giver_was_bound(self):
        deeds = [licence(9, 1, 5, recorded=1), licence(2, 1, 6, recorded=3), licence(5, 1, 7, recorded=2),
                 transfer(1, 1, 3, 10, recorded=4)]
        for order in itertools.permutations(deeds):
            self.assertEqual(bonds(*order), [(9, 1), (5, 1), (2, 1), (9, 3), (5, 3), (2, 3)])

    def test_the_givers_order_is_not_that_of_the_licences(self):
        deeds = [licence(1, 1, 5), licence(2, 2, 6), transfer(3, 1, 2, 10), transfer(4, 2, 3, 70)]
        self.assertEqual(bonds(*deeds, of=HALVES), [(1, 1), (2, 2), (1, 2), (2, 3), (1, 3)])

    def test_once(self):
        deeds = [licence(1, 1, 5), transfer(2, 1, 3, 10), transfer(3, 1, 3, 10)]
        self.assertEqual(bonds(*deeds), [(1, 1), (1, 3)])
        self.assertEqual(bonds(*deeds, transfer(4, 3, 1, 20)), [(1, 1), (1, 3)])

    def test_a_second_transfer_adds_what_is_new(self):
        deeds = [licence(1, 1, 5), transfer(2, 1, 3, 10), licence(3, 1, 6), transfer(4, 1, 3, 10)]
        self.assertEqual(bonds(*deeds), [(1, 1), (1, 3), (3, 1), (3, 3)])

    def test_who_is_bound_already_keeps_the_place(self):
        deeds = [licence(1, 1, 5), licence(2, 1, 6), licence(3, 2, 7), transfer(4, 2, 3, 10), transfer(5, 1, 3, 10),
                 transfer(6, 2, 1, 10), transfer(7, 3, 4, 10)]
        expected = [(1, 1), (2, 1), (3, 2), (3, 3), (1, 3), (2, 3), (3, 1), (3, 4), (1, 4), (2, 4)]
        self.assertEqual(bonds(*deeds, of=HALVES), expected)

    def test_who_holds_nothing_any_more_stays_bound(self):
        deeds = [licence(1, 1, 5), transfer(2, 1, 3, 120), transfer(3, 3, 4, 120)]
        self.assertEqual(last(right(), *deeds, holders()), [0, 4, 120])
        self.assertEqual(bonds(*deeds), [(1, 1), (1, 3), (1, 4)])

    def test_not_if_nothing_goes(self):
        self.assertEqual(bonds(licence(1, 1, 5), pledge(2, 1, 9, 120), transfer(3, 1, 3, 10)), [(1, 1)])
        self.assertEqual(bonds(licence(1, 1, 5), transfer(2, 1, 1, 10)), [(1, 1)])
        self.assertEqual(bonds(licence(1, 1, 5), transfer(2, 3, 4, 10)), [(1, 1)])

    def test_a_pledge_and_a_release_bind_nobody(self):
        self.assertEqual(bonds(licence(1, 1, 5), pledge(2, 1, 9, 50)), [(1, 1)])
        self.assertEqual(bonds(licence(1, 1, 5), pledge(2, 1, 9, 50), release(3, 2)), [(1, 1)])
        self.assertEqual(bonds(licence(1, 1, 5), pledge(2, 1, 9, 50), release(3, 2), seize(4, 2)), [(1, 1)])

    def test_a_seizure_binds_the_creditor(self):
        deeds = [licence(5, 1, 5, recorded=1), pledge(1, 1, 9, 50, recorded=2), licence(3, 1, 6, recorded=3)]
        self.assertEqual(bonds(*deeds, seize(2, 1, recorded=4)), [(5, 1), (3, 1), (5, 9), (3, 9)])

    def test_a_seizure_of_nothing_binds_nobody(self):
        self.assertEqual(bonds(licence(1, 1, 5), pledge(2, 3, 9, 50), seize(3, 2)), [(1, 1)])
        deeds = [licence(1, 1, 5), pledge(2, 1, 9, 50), seize(3, 2), licence(4, 1, 6), seize(5, 2)]
        self.assertEqual(bonds(*deeds), [(1, 1), (1, 9), (4, 1)])

    def test_a_seizure_to_the_giver_binds_nobody_else(self):
        self.assertEqual(bonds(licence(1, 1, 5), pledge(2, 1, 1, 50), seize(3, 2)), [(1, 1)])

    def test_on_a_day_in_between(self):
        deeds = [licence(1, 1, 5, recorded=1), transfer(2, 1, 3, 10, recorded=3)]
        self.assertEqual([bonds(*deeds, day=day) for day in (0, 1, 2, 3)],
                         [[], [(1, 1)], [(1, 1)], [(1, 1), (1, 3)]])

    def test_an_annulled_licence_and_an_annulled_transfer(self):
        deeds = [licence(1, 1, 5), transfer(2, 1, 3, 10), licence(3, 3, 6)]
        self.assertEqual(bonds(*deeds), [(1, 1), (1, 3), (3, 3)])
        self.assertEqual(bonds(*deeds, annul(4, 1)), [(3, 3)])
        self.assertEqual(bonds(*deeds, annul(4, 2)), [(1, 1)])
