import unittest

from tests.helper import (all_deeds, annul, bound, effect, field, force, free, holders, last, leave, licence, locks,
                          owners, parts, pledge, release, right, run, same, seize, told, transfer)
from whohaswhat.rights import answers

# All twenty calls, each with its answer.
ALL_CALLS = (
    (field(2, 2), [0]),
    (right(owners=(1, 60, 2, 60), boxes=(3, 3)), [1]),
    (transfer(8, 1, 2, 30, box=(1, 3), recorded=1), [1]),
    (licence(7, 1, 3, box=(3, 3), recorded=2), [2]),
    (pledge(6, 1, 4, 40, box=(3, 3), recorded=3), [3]),
    (release(5, 6, recorded=9), [4]),
    (seize(4, 6, recorded=8), [5]),
    (annul(3, 8, known=50), [6]),
    (holders(known=49, variant=(0, 1)), [0, 2, 90, 4, 30]),
    (leave(3, known=49, variant=(0, 1)), [0, 2]),
    (free(1, known=49), [2, 0, 0]),
    (parts(4, known=49), [4, 140]),
    (effect(6, known=49), [16, 8, 8, 0]),
    (force(variant=(1, 1)), [0, 1]),
    (locks(day=7, known=49, variant=(0, 0)), [0, 6, 1, 4, 30]),
    (bound(known=49, variant=(0, 0)), [0, 7, 1, 7, 4]),
    (all_deeds(), [0, 3, 8, 7, 6, 4, 5]),
    (told(7), [1, 0, 2, 1, 1, 3, 0, 0, 0, 100000, 15, 0, 3, 3]),
    (same(day=1, day2=7), [1]),
    (owners(known=49, variant=(1, 0)), [0, 1, 2, 4]),
)


def flat(calls):
    return [number for call in calls for number in call]


class AnswersTest(unittest.TestCase):

    def test_one_list_of_numbers_with_counts(self):
        calls = [0, 1, 3]
        calls += [1, 7, 0, 10, 1, 1, 7, 4, 2, 20, 5, 100]
        calls += [2, 9, 0, 0, 7, 2, 4, 5, 1, 1, 7]
        calls += [8, 7, 0, 5, 5, 1, 2]
        calls += [8, 7, 1, 5, 5, 1, 2]
        calls += [9, 1, 0, 5, 5, 1, 2]
        expected = [1, 0, 1, 1, 1, 1, 7, 0, 2, 15, 4, 5, 5, 100, 1, -7, 4, 0, 2, 4, 5]
        self.assertEqual(answers(calls), expected)

    def test_each_call_of_a_list(self):
        calls = [field(2), right(), transfer(1, 1, 2, 30), licence(2, 1, 3), pledge(3, 1, 4, 30), release(4, 3)]
        calls += [seize(5, 3), annul(6, 1), holders(), leave(3)]
        self.assertEqual(run(*calls), [[0], [1], [1], [2], [3], [4], [5], [6], [0, 1, 120], [0]])

    def test_answers_are_plain_whole_numbers_in_a_list(self):
        found = answers(right() + transfer(1, 1, 2, 30) + holders() + leave(3) + holders(of=2))
        self.assertIs(type(found), list)
        self.assertEqual({type(number) for number in found}, {int})

    def test_at_first_one_feature_with_two_leaves(self):
        self.assertEqual(run(right(boxes=(3,)), holders(variant=(1,))), [[1], [0, 1, 120]])
        self.assertEqual(run(right(boxes=(4,))), [[-4]])
        self.assertEqual(run(right(boxes=(1, 1)), holders(variant=(0, 0))), [[1], [-4]])
        self.assertEqual(run(leave(1, variant=(2,))), [[-4]])

    def test_at_first_no_rights_and_no_deeds(self):
        self.assertEqual(run(leave(1)), [[0]])
        self.assertEqual(run(holders()), [[-5]])
        self.assertEqual(run(annul(1, 1)), [[-5]])

    def test_field_in_the_middle(self):
        before = [right(), transfer(1, 1, 2, 30), pledge(2, 1, 3, 10)]
        behind = [holders(), leave(5), release(3, 2), annul(3, 1), right(), transfer(1, 1, 2, 40), holders()]
        expected = [[1], [1], [2], [0], [-5], [0], [-5], [-5], [1], [1], [0, 1, 80, 2, 40]]
        self.assertEqual(run(*before, field(2), *behind), expected)

    def test_field_in_the_middle_makes_room(self):
        rights = [right(r) for r in range(1, 9)]
        deeds = [transfer(k, 1, 2, 1) for k in range(1, 61)]
        found = run(*rights, *deeds, field(2), right(), transfer(1, 1, 2, 1))
        self.assertEqual(found[-2:], [[1], [1]])

    def test_empty_rows(self):
        self.assertEqual(run(field()), [[-4]])
        self.assertEqual(run(right(boxes=())), [[-4]])
        self.assertEqual(run(right(owners=())), [[-4]])
        for call in (transfer(1, 1, 2, 1, box=()), licence(1, 1, 2, box=()), pledge(1, 1, 2, 1, box=()),
                     holders(variant=()), leave(1, variant=())):
            self.assertEqual(run(right(), call, holders()), [[1], [-4], [0, 1, 120]])

    def test_rows_of_sixty_numbers(self):
        rows = [1] * 60
        calls = [field(*rows), right(boxes=rows), right(owners=rows), leave(1, variant=rows)]
        self.assertEqual(run(*calls, right()), [[-4], [-4], [-4], [-4], [1]])

    def test_numbers_of_any_size(self):
        for number in (-9223372036854775808, 9223372036854775807):
            calls = [field(number), right(number), right(boxes=(number,)), right(owners=(1, number)), right()]
            calls += [right(2, owners=(number, 120)), holders(of=number), leave(number), leave(1, variant=(number,))]
            calls += [annul(1, number), transfer(1, 1, 2, number)]
            self.assertEqual(run(*calls), [[-4], [-3], [-4], [-4], [1], [-4], [-5], [-3], [-4], [-5], [-3]])

    def test_four_hundred_calls(self):
        calls = [right()] + [transfer(k, 1, 2, 1, recorded=k) for k in range(1, 61)]
        days = [day % 70 for day in range(339)]
        found = run(*calls, *[holders(day=day) for day in days])
        expected = [[0, 1, 120 - min(day, 60), 2, min(day, 60)] if day else [0, 1, 120] for day in days]
        self.assertEqual(found[61:], expected)

    def test_what_is_handed_in_stays(self):
        calls = field(3, 2) + right(boxes=(7, 1, 1, 3), owners=(1, 60, 2, 60)) + transfer(1, 1, 2, 70, box=(7, 3))
        calls += seize(2, 1) + pledge(3, 2, 4, 100, box=(1, 1)) + seize(4, 3) + holders(variant=(0, 0))
        calls += leave(5, variant=(0, 0)) + field(1) + field(9)
        kept = list(calls)
        answers(calls)
        self.assertEqual(calls, kept)

    def test_what_is_given_back_is_ones_own(self):
        calls = right() + holders()
        found = answers(calls)
        found.clear()
        self.assertEqual(answers(calls), [1, 1, 3, 0, 1, 120])

    def test_nothing_is_kept(self):
        calls = field(3) + right(boxes=(5,)) + transfer(1, 1, 2, 30, box=(4,)) + holders(variant=(2,)) + leave(9)
        first = answers(calls)
        self.assertEqual(answers(calls), first)
        self.assertEqual(answers(holders()), [1, -5])
        self.assertEqual(answers(right(boxes=(4,))), [1, -4])
        self.assertEqual(answers(calls), first)

    def test_all_twenty_calls(self):
        self.assertEqual([call[0] for call, answer in ALL_CALLS], list(range(20)))
        self.assertEqual(run(*[call for call, answer in ALL_CALLS]), [answer for call, answer in ALL_CALLS])

    def test_all_twenty_calls_behind_a_field_in_the_middle(self):
        calls = [call for call, answer in ALL_CALLS]
        expected = [answer for call, answer in ALL_CALLS]
        others = [field(3), right(5, boxes=(7,)), transfer(9, 1, 2, 7, of=5, box=(7,)), holders(of=5, variant=(2,))]
        self.assertEqual(run(*calls, *calls, *others, *calls),
                         expected * 2 + [[0], [1], [1], [0, 1, 113, 2, 7]] + expected)

    def test_a_field_in_the_middle_leaves_nothing_to_ask_for(self):
        calls = [call for call, answer in ALL_CALLS]
        found = run(*calls, field(2, 2), *calls[8:])[21:]
        self.assertEqual(found, [[-5], [0], [4], [-5], [-5], [0], [-5], [-5], [0], [-5], [-5], [0]])

    def test_a_field_in_the_middle_has_its_own_variants(self):
        calls = [call for call, answer in ALL_CALLS]
        found = run(*calls, field(3), *calls[8:], free(1), right(boxes=(6,)), free(2))[21:]
        self.assertEqual(found[:12], [[-4], [-4], [3], [-5], [-5], [-4], [-4], [-4], [0], [-5], [-5], [-4]])
        self.assertEqual(found[12:], [[3], [1], [1, 1]])

    def test_all_twenty_calls_stay_and_nothing_is_kept(self):
        calls = flat([call for call, answer in ALL_CALLS])
        kept = list(calls)
        first = answers(calls)
        self.assertEqual(calls, kept)
        self.assertEqual({type(number) for number in first}, {int})
        self.assertEqual(answers(free(1) + force() + all_deeds() + owners()), [1, 2, 1, 0, 1, 0, 1, 0])
        self.assertEqual(answers(calls), first)
        self.assertEqual(calls, kept)

    def test_what_is_told_is_ones_own(self):
        calls = flat([call for call, answer in ALL_CALLS])
        first = answers(calls)
        expected = list(first)
        first.clear()
        self.assertEqual(answers(calls), expected)

    def test_the_largest_questions_are_answered(self):
        whole = (3,) * 6
        before = [field(2, 2, 2, 2, 2, 2), right(boxes=whole, owners=flat([(p, 6) for p in range(1, 21)]))]
        before += [transfer(k, k % 20 + 1, k % 7 + 1, 3, recorded=k, box=whole) for k in range(1, 41)]
        before += [licence(k, k % 20 + 1, k % 7 + 1, recorded=k, box=whole) for k in range(41, 61)]
        found = run(*before, *[same(day=39, day2=60), free(9), parts(1), effect(40)] * 5)[62:]
        self.assertEqual(found, found[:4] * 5)
        self.assertEqual(found[0], [0, 0, 0, 0, 0, 0, 0, 0])
        self.assertEqual(found[3], [256, 256, 0, 0])

    def test_first_call_may_be_any(self):
        self.assertEqual(run(transfer(1, 1, 2, 1), licence(1, 1, 2), pledge(1, 1, 2, 1)), [[-5]] * 3)
        self.assertEqual(run(release(1, 1), seize(1, 1), annul(1, 1), holders()), [[-5]] * 4)
        self.assertEqual(last(field(1)), [0])
