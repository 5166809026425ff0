import unittest

from tests.helper import annul, field, holders, last, leave, licence, pledge, release, right, run, seize, transfer
from whohaswhat.rights import answers

# A call of each number from 10 to 19, as the interface tells their counts.
LATER_CALLS = (
    [10, 1, 0, 0, 0],
    [11, 1, 1, 0, 0, 0],
    [12, 1, 0],
    [13, 0, 0, 1, 0],
    [14, 1, 0, 0, 0, 1, 0],
    [15, 1, 0, 0, 0, 1, 0],
    [16],
    [17, 1],
    [18, 1, 0, 0, 0, 0],
    [19, 0, 0, 0, 1, 0],
)


class AnswersTest(unittest.TestCase):

    def test_one_list_of_numbers_with_counts(self):
        calls = [0, 1, 3]
        calls += [1, 7, 0, 10, 1, 1, 7, 4, 2, 20, 5, 100]
        calls += [2, 9, 0, 0, 7, 2, 4, 5, 1, 1, 7]
        calls += [8, 7, 0, 5, 5, 1, 2]
        calls += [8, 7, 1, 5, 5, 1, 2]
        calls += [9, 1, 0, 5, 5, 1, 2]
        expected = [1, 0, 1, 1, 1, 1, 7, 0, 2, 15, 4, 5, 5, 100, 1, -7, 4, 0, 2, 4, 5]
        self.assertEqual(answers(calls), expected)

    def test_each_call_of_a_list(self):
        calls = [field(2), right(), transfer(1, 1, 2, 30), licence(2, 1, 3), pledge(3, 1, 4, 30), release(4, 3)]
        calls += [seize(5, 3), annul(6, 1), holders(), leave(3)]
        self.assertEqual(run(*calls), [[0], [1], [1], [2], [3], [4], [5], [6], [0, 1, 120], [0]])

    def test_answers_are_plain_whole_numbers_in_a_list(self):
        told = answers(right() + transfer(1, 1, 2, 30) + holders() + leave(3) + holders(of=2))
        self.assertIs(type(told), list)
        self.assertEqual({type(number) for number in told}, {int})

    def test_at_first_one_feature_with_two_leaves(self):
        self.assertEqual(run(right(boxes=(3,)), holders(variant=(1,))), [[1], [0, 1, 120]])
        self.assertEqual(run(right(boxes=(4,))), [[-4]])
        self.assertEqual(run(right(boxes=(1, 1)), holders(variant=(0, 0))), [[1], [-4]])
        self.assertEqual(run(leave(1, variant=(2,))), [[-4]])

    def test_at_first_no_rights_and_no_deeds(self):
        self.assertEqual(run(leave(1)), [[0]])
        self.assertEqual(run(holders()), [[-5]])
        self.assertEqual(run(annul(1, 1)), [[-5]])

    def test_field_in_the_middle(self):
        before = [right(), transfer(1, 1, 2, 30), pledge(2, 1, 3, 10)]
        behind = [holders(), leave(5), release(3, 2), annul(3, 1), right(), transfer(1, 1, 2, 40), holders()]
        expected = [[1], [1], [2], [0], [-5], [0], [-5], [-5], [1], [1], [0, 1, 80, 2, 40]]
        self.assertEqual(run(*before, field(2), *behind), expected)

    def test_field_in_the_middle_makes_room(self):
        rights = [right(r) for r in range(1, 9)]
        deeds = [transfer(k, 1, 2, 1) for k in range(1, 61)]
        found = run(*rights, *deeds, field(2), right(), transfer(1, 1, 2, 1))
        self.assertEqual(found[-2:], [[1], [1]])

    def test_empty_rows(self):
        self.assertEqual(run(field()), [[-4]])
        self.assertEqual(run(right(boxes=())), [[-4]])
        self.assertEqual(run(right(owners=())), [[-4]])
        for call in (transfer(1, 1, 2, 1, box=()), licence(1, 1, 2, box=()), pledge(1, 1, 2, 1, box=()),
                     holders(variant=()), leave(1, variant=())):
            self.assertEqual(run(right(), call, holders()), [[1], [-4], [0, 1, 120]])

    def test_rows_of_sixty_numbers(self):
        rows = [1] * 60
        calls = [field(*rows), right(boxes=rows), right(owners=rows), leave(1, variant=rows)]
        self.assertEqual(run(*calls, right()), [[-4], [-4], [-4], [-4], [1]])

    def test_numbers_of_any_size(self):
        for number in (-9223372036854775808, 9223372036854775807):
            calls = [field(number), right(number), right(boxes=(number,)), right(owners=(1, number)), right()]
            calls += [right(2, owners=(number, 120)), holders(of=number), leave(number), leave(1, variant=(number,))]
            calls += [annul(1, number), transfer(1, 1, 2, number)]
            self.assertEqual(run(*calls), [[-4], [-3], [-4], [-4], [1], [-4], [-5], [-3], [-4], [-5], [-3]])

    def test_four_hundred_calls(self):
        calls = [right()] + [transfer(k, 1, 2, 1, recorded=k) for k in range(1, 61)]
        days = [day % 70 for day in range(339)]
        found = run(*calls, *[holders(day=day) for day in days])
        expected = [[0, 1, 120 - min(day, 60), 2, min(day, 60)] if day else [0, 1, 120] for day in days]
        self.assertEqual(found[61:], expected)

    def test_what_is_handed_in_stays(self):
        calls = field(3, 2) + right(boxes=(7, 1, 1, 3), owners=(1, 60, 2, 60)) + transfer(1, 1, 2, 70, box=(7, 3))
        calls += seize(2, 1) + pledge(3, 2, 4, 100, box=(1, 1)) + seize(4, 3) + holders(variant=(0, 0))
        calls += leave(5, variant=(0, 0)) + field(1) + field(9)
        kept = list(calls)
        answers(calls)
        self.assertEqual(calls, kept)

    def test_what_is_given_back_is_ones_own(self):
        calls = right() + holders()
        told = answers(calls)
        told.clear()
        self.assertEqual(answers(calls), [1, 1, 3, 0, 1, 120])

    def test_nothing_is_kept(self):
        calls = field(3) + right(boxes=(5,)) + transfer(1, 1, 2, 30, box=(4,)) + holders(variant=(2,)) + leave(9)
        first = answers(calls)
        self.assertEqual(answers(calls), first)
        self.assertEqual(answers(holders()), [1, -5])
        self.assertEqual(answers(right(boxes=(4,))), [1, -4])
        self.assertEqual(answers(calls), first)

    def test_calls_of_later_stages_are_taken_apart(self):
        for call in LATER_CALLS:
            found = run(right(), transfer(1, 1, 2, 30), call, holders(), leave(3))
            self.assertEqual(found[3:], [[0, 1, 90, 2, 30], [0, 1, 2]])

    def test_first_call_may_be_any(self):
        self.assertEqual(run(transfer(1, 1, 2, 1), licence(1, 1, 2), pledge(1, 1, 2, 1)), [[-5]] * 3)
        self.assertEqual(run(release(1, 1), seize(1, 1), annul(1, 1), holders()), [[-5]] * 4)
        self.assertEqual(last(field(1)), [0])
