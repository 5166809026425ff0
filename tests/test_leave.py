"""The call leave, and "Whom to ask" sentence by sentence."""

import unittest

from tests.helper import annul, asked, field, last, leave, licence, pledge, right, run, sole, transfer

HALVES = right(owners=(1, 60, 2, 60))


class LeaveCallTest(unittest.TestCase):

    def test_edges_of_ranges(self):
        for call in (leave(1), leave(20), leave(5, land=0), leave(5, land=3), leave(5, day=0), leave(5, day=100000),
                     leave(5, known=0), leave(5, known=100000), leave(5, variant=(0,)), leave(5, variant=(1,))):
            self.assertEqual(last(right(owners=(4, 120)), call), [0, 4], call)

    def test_out_of_range(self):
        for call in (leave(0), leave(21), leave(5, land=-1), leave(5, land=4), leave(5, day=-1), leave(5, day=100001),
                     leave(5, known=-1), leave(5, known=100001)):
            self.assertEqual(last(right(), call), [-3], call)

    def test_variant_of_wrong_form(self):
        for variant in ((), (-1,), (2,), (0, 0)):
            self.assertEqual(last(right(), leave(5, variant=variant)), [-4])
        for variant in ((0,), (3, 0), (0, 8), (-1, 0), (0, -1), (0, 0, 0)):
            self.assertEqual(last(field(3, 8), leave(5, variant=variant)), [-4])

    def test_first_refusal_that_is_due(self):
        for call in (leave(0, variant=(2,)), leave(5, land=4, variant=(2,)), leave(5, day=-1, variant=())):
            self.assertEqual(run(call), [[-3]])

    def test_asking_changes_nothing(self):
        calls = [right(), sole(1, 1, 5), leave(6), leave(6, land=4), leave(6, variant=(2,)), leave(6)]
        self.assertEqual(run(*calls)[2:], [[0, 5], [-3], [-4], [0, 5]])


class InForceTest(unittest.TestCase):

    def test_without_rights_nobody(self):
        self.assertEqual(run(leave(1)), [[0]])

    def test_from_the_first_to_the_last_day(self):
        short = right(first=5, last=9)
        self.assertEqual([asked(3, of=short, day=day) for day in (0, 4, 5, 7, 9, 10)], [[], [], [1], [1], [1], []])

    def test_right_of_one_day(self):
        self.assertEqual([asked(3, of=right(first=5, last=5), day=day) for day in (4, 5, 6)], [[], [1], []])

    def test_only_cells_of_the_right(self):
        before = [field(2, 2), right(lands=5, boxes=(1, 1, 2, 2))]
        for land in range(4):
            for variant in ((0, 0), (0, 1), (1, 0), (1, 1)):
                is_cell = land in (0, 2) and variant in ((0, 0), (1, 1))
                expected = [0, 1] if is_cell else [0]
                self.assertEqual(last(*before, leave(5, land=land, variant=variant)), expected)

    def test_several_rights_each_person_once_and_rising(self):
        rights = [right(4, owners=(7, 60, 9, 60)), right(2, owners=(3, 20, 9, 100)), right(3, owners=(5, 120))]
        self.assertEqual(last(*rights, leave(20)), [0, 3, 5, 7, 9])
        self.assertEqual(last(*rights, leave(5)), [0, 3, 7, 9])
        self.assertEqual(last(*rights, leave(9)), [0, 5])

    def test_of_several_rights_those_in_force(self):
        rights = [right(1, owners=(1, 120), last=4), right(2, owners=(2, 120), first=4), right(3, lands=2)]
        self.assertEqual(last(*rights, leave(20, day=3)), [0, 1])
        self.assertEqual(last(*rights, leave(20, day=4)), [0, 1, 2])
        self.assertEqual(last(*rights, leave(20, day=5)), [0, 2])

    def test_deeds_of_one_right_tell_nothing_of_another(self):
        rights = [right(1), right(2)]
        self.assertEqual(last(*rights, licence(1, 1, 5, of=2), leave(5)), [0, 1])
        self.assertEqual(last(*rights, licence(1, 1, 5, of=2), licence(2, 1, 5, of=1), leave(5)), [0])
        self.assertEqual(last(*rights, sole(1, 1, 4, of=1), leave(1)), [0, 4])
        self.assertEqual(last(*rights, sole(1, 1, 4, of=1), leave(5)), [0, 1, 4])


class WithoutSoleTest(unittest.TestCase):

    def test_every_holder_is_asked(self):
        self.assertEqual(asked(5, of=HALVES), [1, 2])

    def test_who_holds_parts_asks_nobody(self):
        self.assertEqual(asked(1, of=HALVES), [])
        self.assertEqual(asked(3, transfer(1, 1, 3, 1), of=HALVES), [])
        self.assertEqual(asked(1, transfer(1, 1, 3, 60), of=HALVES), [2, 3])

    def test_only_licences_give_leave(self):
        for day in (0, 9):
            self.assertEqual(asked(2, transfer(1, 1, 2, 60), transfer(2, 2, 3, 60), day=day), [1, 3])
            self.assertEqual(asked(2, pledge(1, 1, 2, 60), day=day), [1])

    def test_a_holder_bound_by_plain_licences_asks_nobody(self):
        self.assertEqual(asked(1, licence(1, 1, 5), of=HALVES), [])

    def test_the_taker_of_a_licence(self):
        deeds = [licence(1, 1, 5)]
        self.assertEqual(asked(5, *deeds), [])
        self.assertEqual(asked(6, *deeds), [1])
        self.assertEqual(asked(5, *deeds, of=HALVES), [2])
        self.assertEqual(asked(5, *deeds, licence(2, 2, 5), of=HALVES), [])

    def test_any_of_several_licences(self):
        deeds = [licence(1, 1, 5), licence(2, 1, 6), licence(3, 1, 7)]
        self.assertEqual([asked(person, *deeds) for person in (5, 6, 7, 8)], [[], [], [], [1]])

    def test_only_licences_whose_days_hold_the_day(self):
        deeds = [licence(1, 1, 5, begin=10, to=12)]
        days = (0, 9, 10, 11, 12, 13)
        self.assertEqual([asked(5, *deeds, day=day) for day in days], [[1], [1], [], [], [], [1]])
        self.assertEqual([asked(5, licence(1, 1, 5, begin=7, to=7), day=day) for day in (6, 7, 8)], [[1], [], [1]])

    def test_a_licence_that_holds_no_day(self):
        deeds = [licence(1, 1, 5, begin=12, to=10)]
        self.assertEqual([asked(5, *deeds, day=day) for day in (9, 10, 11, 12, 13)], [[1]] * 5)

    def test_only_licences_recorded_on_or_before_the_day(self):
        deeds = [licence(1, 1, 5, recorded=10)]
        self.assertEqual([asked(5, *deeds, day=day) for day in (9, 10, 11)], [[1], [], []])

    def test_only_licences_that_are_known_and_counted(self):
        deeds = [licence(1, 1, 5, known=10), annul(2, 1, known=20)]
        self.assertEqual([asked(5, *deeds, known=known) for known in (9, 10, 19, 20)], [[1], [], [], [1]])

    def test_no_chain_without_a_sole_licence(self):
        self.assertEqual(asked(6, licence(1, 1, 5), licence(2, 5, 6)), [1])

    def test_a_licence_to_oneself(self):
        self.assertEqual(asked(1, licence(1, 1, 1)), [])
        self.assertEqual(asked(5, licence(1, 1, 1)), [1])

    def test_holder_with_locked_parts(self):
        self.assertEqual(asked(5, pledge(1, 1, 9, 120)), [1])
        self.assertEqual(asked(1, pledge(1, 1, 9, 120)), [])


class SoleTest(unittest.TestCase):

    def test_its_taker_is_asked_in_the_givers_place(self):
        deeds = [sole(1, 1, 5)]
        self.assertEqual(asked(6, *deeds), [5])
        self.assertEqual(asked(6, *deeds, of=HALVES), [2, 5])
        self.assertEqual(asked(5, *deeds), [])
        self.assertEqual(asked(5, *deeds, of=HALVES), [2])

    def test_its_giver_asks_too(self):
        self.assertEqual(asked(1, sole(1, 1, 5)), [5])
        self.assertEqual(asked(1, sole(1, 1, 5), of=HALVES), [2, 5])
        self.assertEqual(asked(2, sole(1, 1, 5), of=HALVES), [])

    def test_early_licences(self):
        deeds = [licence(1, 1, 6), licence(2, 1, 7), sole(3, 1, 5), licence(4, 1, 8)]
        self.assertEqual([asked(person, *deeds) for person in (6, 7, 5, 8, 9)], [[], [], [], [5], [5]])

    def test_early_by_days_of_record_then_numbers(self):
        deeds = [licence(9, 1, 6, recorded=4), licence(1, 1, 7, recorded=6), sole(5, 1, 5, recorded=5)]
        deeds += [licence(4, 1, 8, recorded=5), licence(6, 1, 9, recorded=5)]
        for order in (deeds, deeds[::-1]):
            self.assertEqual([asked(person, *order) for person in (6, 7, 8, 9)], [[], [5], [], [5]])

    def test_the_first_sole_one(self):
        deeds = [sole(1, 1, 5), sole(2, 1, 6)]
        self.assertEqual([asked(person, *deeds) for person in (5, 6, 7)], [[], [5], [5]])

    def test_the_first_sole_one_whose_days_hold_the_day(self):
        deeds = [sole(1, 1, 5, begin=0, to=9), licence(2, 1, 8), sole(3, 1, 6, begin=5, to=20)]
        self.assertEqual([asked(7, *deeds, day=day) for day in (0, 4, 9, 10, 20, 21)], [[5], [5], [5], [6], [6], [1]])
        self.assertEqual([asked(8, *deeds, day=day) for day in (0, 9, 10, 21)], [[5], [5], [], []])
        self.assertEqual([asked(6, *deeds, day=day) for day in (4, 5, 9, 10, 21)], [[5], [5], [5], [], [1]])

    def test_holder_and_the_days_of_a_sole_licence(self):
        deeds = [sole(1, 1, 5, begin=5, to=9)]
        self.assertEqual([asked(1, *deeds, day=day) for day in (4, 5, 9, 10)], [[], [5], [5], []])

    def test_recorded_later_or_annulled(self):
        deeds = [sole(1, 1, 5, recorded=7), annul(2, 1, known=9)]
        self.assertEqual([asked(6, *deeds, day=day, known=0) for day in (6, 7)], [[1], [5]])
        self.assertEqual([asked(6, *deeds, known=known) for known in (8, 9)], [[5], [1]])
        self.assertEqual([asked(1, *deeds, known=known) for known in (8, 9)], [[5], []])

    def test_of_a_giver_who_holds_nothing(self):
        self.assertEqual(asked(6, sole(1, 3, 5)), [1])

    def test_to_the_giver(self):
        deeds = [licence(1, 1, 7), sole(2, 1, 1), licence(3, 1, 8)]
        self.assertEqual([asked(person, *deeds) for person in (1, 6, 7, 8)], [[], [1], [], []])

    def test_a_holder_with_an_early_licence_of_their_own(self):
        deeds = [licence(1, 1, 1), sole(2, 1, 5)]
        self.assertEqual(asked(1, *deeds), [])


class BoundHolderTest(unittest.TestCase):

    def test_bound_by_a_sole_licence_through_a_transfer(self):
        deeds = [sole(1, 1, 5), transfer(2, 1, 2, 30)]
        self.assertEqual([asked(person, *deeds) for person in (1, 2, 5, 6)], [[5], [5], [], [5]])

    def test_bound_through_parts_beside_ones_own(self):
        deeds = [sole(1, 1, 5), transfer(2, 1, 2, 1)]
        self.assertEqual(asked(2, *deeds, of=HALVES), [5])
        self.assertEqual(asked(5, *deeds, of=HALVES), [])

    def test_bound_by_ones_own_sole_licence(self):
        deeds = [sole(1, 1, 5), transfer(2, 1, 5, 30)]
        self.assertEqual(asked(5, *deeds), [])
        self.assertEqual(asked(5, *deeds, of=HALVES), [])
        self.assertEqual(asked(1, *deeds), [5])

    def test_one_sole_licence_of_another_is_enough(self):
        deeds = [sole(1, 1, 3), sole(2, 1, 5), transfer(3, 1, 3, 30)]
        self.assertEqual(asked(3, *deeds), [])
        self.assertEqual(asked(3, *deeds, of=HALVES), [2])

    def test_not_bound_in_another_cell(self):
        deeds = [sole(1, 1, 5, lands=1, box=(1,))]
        self.assertEqual(asked(1, *deeds, land=0, variant=(0,)), [5])
        self.assertEqual(asked(1, *deeds, land=1, variant=(0,)), [])
        self.assertEqual(asked(1, *deeds, land=0, variant=(1,)), [])

    def test_bound_ones_go_in_the_order_of_deeds_not_of_binding(self):
        deeds = [sole(10, 1, 3, recorded=3), licence(20, 2, 6, recorded=5), transfer(30, 1, 2, 60, recorded=6)]
        self.assertEqual(asked(6, *deeds, of=HALVES), [3])
        deeds = [licence(10, 1, 6, recorded=3), sole(20, 2, 3, recorded=5), transfer(30, 1, 2, 60, recorded=6)]
        self.assertEqual(asked(6, *deeds, of=HALVES), [])

    def test_still_bound_when_the_giver_holds_nothing(self):
        deeds = [sole(1, 1, 5), transfer(2, 1, 2, 120)]
        self.assertEqual([asked(person, *deeds) for person in (1, 2, 5)], [[5], [5], []])


class ChainTest(unittest.TestCase):

    def test_a_licence_of_the_sole_ones_taker(self):
        deeds = [sole(1, 1, 5), licence(2, 5, 6)]
        self.assertEqual([asked(person, *deeds) for person in (6, 7, 1)], [[], [5], [5]])

    def test_only_behind_the_sole_one(self):
        self.assertEqual(asked(6, licence(1, 5, 6), sole(2, 1, 5)), [5])
        self.assertEqual(asked(6, licence(3, 5, 6), sole(2, 1, 5)), [])
        self.assertEqual(asked(6, licence(1, 5, 6, recorded=9), sole(2, 1, 5, recorded=8)), [])
        self.assertEqual(asked(6, licence(3, 5, 6, recorded=7), sole(2, 1, 5, recorded=8)), [5])

    def test_only_with_its_taker_as_their_giver(self):
        self.assertEqual(asked(6, sole(1, 1, 5), licence(2, 1, 6), licence(3, 4, 6)), [5])

    def test_only_licences_of_its_taker(self):
        for day in (0, 9):
            self.assertEqual(asked(6, sole(1, 1, 5), transfer(2, 5, 6, 10), pledge(3, 5, 6, 10), day=day), [5])

    def test_not_what_binds_the_taker_otherwise(self):
        deeds = [sole(1, 1, 5), licence(2, 2, 6), transfer(3, 2, 5, 60)]
        self.assertEqual(asked(6, *deeds, of=HALVES), [5])

    def test_only_those_that_cover_the_cell(self):
        deeds = [sole(1, 1, 5), licence(2, 5, 6, lands=2), licence(3, 5, 7, box=(2,))]
        self.assertEqual([asked(person, *deeds) for person in (6, 7)], [[5], [5]])
        self.assertEqual(asked(6, *deeds, land=1), [])
        self.assertEqual(asked(7, *deeds, variant=(1,)), [])

    def test_only_of_the_right(self):
        rights = [right(1), right(2, owners=(6, 120))]
        self.assertEqual(last(*rights, sole(1, 1, 5), licence(2, 5, 6, of=2), leave(6)), [0, 5])

    def test_only_those_whose_days_hold_the_day(self):
        deeds = [sole(1, 1, 5), licence(2, 5, 6, begin=5, to=9)]
        self.assertEqual([asked(6, *deeds, day=day) for day in (4, 5, 9, 10)], [[5], [], [], [5]])

    def test_only_those_recorded_known_and_counted(self):
        deeds = [sole(1, 1, 5), licence(2, 5, 6, recorded=7, known=3), annul(3, 2, known=9)]
        self.assertEqual([asked(6, *deeds, day=day, known=3) for day in (6, 7)], [[5], []])
        self.assertEqual([asked(6, *deeds, known=known) for known in (2, 3, 8, 9)], [[5], [], [], [5]])

    def test_whether_that_taker_holds_parts_or_not(self):
        deeds = [sole(1, 1, 5), licence(2, 5, 6)]
        self.assertEqual(asked(6, *deeds), [])
        self.assertEqual(asked(6, transfer(9, 2, 5, 60), *deeds, of=HALVES), [5])
        fifth = right(owners=(1, 60, 5, 60))
        self.assertEqual(asked(6, *deeds, of=fifth), [])
        self.assertEqual(asked(7, *deeds, of=fifth), [5])

    def test_a_sole_licence_under_a_sole_one(self):
        deeds = [sole(1, 1, 5), licence(2, 5, 6), sole(3, 5, 7), licence(4, 5, 8), licence(5, 7, 9)]
        expected = {1: [7], 5: [], 6: [], 7: [], 8: [7], 9: [], 10: [7]}
        self.assertEqual({person: asked(person, *deeds) for person in expected}, expected)

    def test_behind_the_second_sole_one(self):
        deeds = [sole(1, 1, 5), licence(2, 7, 9), sole(3, 5, 7)]
        self.assertEqual(asked(9, *deeds), [7])

    def test_back_to_the_giver(self):
        deeds = [sole(1, 1, 5), sole(2, 5, 1), licence(3, 1, 6)]
        self.assertEqual([asked(person, *deeds) for person in (1, 5, 6, 7)], [[], [], [], [1]])

    def test_a_sole_licence_to_its_giver_in_the_chain(self):
        deeds = [sole(1, 1, 5), sole(2, 5, 5), licence(3, 5, 6)]
        self.assertEqual([asked(person, *deeds) for person in (5, 6, 7)], [[], [], [5]])

    def test_the_holder_who_is_the_last_taker_needs_nobody_for_the_others(self):
        deeds = [sole(1, 1, 5), sole(2, 5, 2)]
        self.assertEqual(asked(6, *deeds, of=HALVES), [2])
        self.assertEqual(asked(1, *deeds, of=HALVES), [2])

    def test_each_holder_has_a_chain(self):
        deeds = [sole(1, 1, 5), sole(2, 2, 6), sole(3, 5, 7), licence(4, 6, 8)]
        self.assertEqual(asked(9, *deeds, of=HALVES), [6, 7])
        self.assertEqual(asked(8, *deeds, of=HALVES), [7])
        self.assertEqual(asked(7, *deeds, of=HALVES), [6])

    def test_a_chain_of_sixty(self):
        deeds = [sole(k, (k - 1) % 18 + 1, k % 18 + 1) for k in range(1, 61)]
        self.assertEqual(asked(20, *deeds), [60 % 18 + 1])
        self.assertEqual(asked(20, *deeds[:-1], licence(60, 59 % 18 + 1, 20)), [])
