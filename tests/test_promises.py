"""The promises 1 to 4, on many small worlds that are made from fixed seeds."""

import itertools
import random
import unittest

from tests.helper import (all_deeds, annul, bound, effect, field, force, free, holders, last, leave, licence, locks,
                          owners, parts, pledge, release, right, run, same, seize, sole, told, transfer)

WORLDS = 60
DAYS = range(6)
LANDS = range(2)
PERSONS = range(1, 7)
MOST_CALLS = 400
FIELDS = ((2,), (2, 2), (3, 1))
# The places of a deed's call.
KNOWN = 2
RIGHT = 4
ABOUT = 4


class World:
    """A field, rights, and deeds in an order in which each comes behind the deed that it is about."""

    def __init__(self, seed, many=16):
        self.dice = random.Random(seed)
        self.leaves = self.dice.choice(FIELDS)
        self.rights = [self.make_right(r) for r in range(1, self.dice.randint(1, 3) + 1)]
        self.deeds = []
        for k in self.dice.sample(range(1, 900), many):
            self.deeds.append(self.make_deed(k))

    def make_box(self):
        return [self.dice.choice((2 ** many - 1, self.dice.randint(1, 2 ** many - 1))) for many in self.leaves]

    def make_lands(self):
        return self.dice.choice((15, 3, 1))

    def make_right(self, r):
        persons = sorted(self.dice.sample(PERSONS, self.dice.randint(1, 3)))
        owners = []
        left = 120
        for person in persons[:-1]:
            parts = self.dice.randint(1, left // 2)
            left -= parts
            owners += [person, parts]
        boxes = [bits for box in range(self.dice.randint(1, 3)) for bits in self.make_box()]
        first = self.dice.choice((0, 0, 1))
        return right(r, first, self.dice.choice((4, 100000)), self.make_lands(), boxes, owners + [persons[-1], left])

    def make_grant(self, k, days):
        giver, taker = self.dice.choice(PERSONS), self.dice.choice(PERSONS)
        rest = dict(days, of=self.dice.choice(self.rights)[1], lands=self.make_lands(), box=self.make_box())
        draw = self.dice.random()
        if draw < 0.35:
            begin, to = self.dice.choice(((0, 9), (0, 9), (2, 4), (3, 1)))
            return licence(k, giver, taker, self.dice.randint(0, 1), begin, to, **rest)
        make = transfer if draw < 0.7 else pledge
        return make(k, giver, taker, self.dice.choice((5, 30, 60, 120)), **rest)

    def make_deed(self, k):
        days = {"known": self.dice.choice(DAYS), "recorded": self.dice.choice(DAYS)}
        pledges = [deed[1] for deed in self.deeds if deed[0] == 4]
        annullable = [deed[1] for deed in self.deeds if deed[0] != 7]
        draw = self.dice.random()
        if draw < 0.3 and pledges:
            return self.dice.choice((release, seize, seize))(k, self.dice.choice(pledges), **days)
        if draw < 0.4 and annullable:
            return annul(k, self.dice.choice(annullable), **days)
        return self.make_grant(k, days)

    def shuffled(self, deeds):
        """Another order in which each deed comes behind the one that it is about."""
        left = list(deeds)
        there = set()
        order = []
        while left:
            ready = [deed for deed in left if about(deed) is None or about(deed) in there]
            deed = self.dice.choice(ready)
            left.remove(deed)
            there.add(deed[1])
            order.append(deed)
        return order

    def cells(self):
        return list(itertools.product(LANDS, itertools.product(*[range(many) for many in self.leaves])))

    def cell_questions(self, day, known):
        asked = []
        for land, variant in self.cells():
            for make in (holders, locks, bound):
                asked += [make(r[1], land, day, known, variant) for r in self.rights]
            asked += [leave(person, land, day, known, variant) for person in (1, 2, 20)]
            asked += [force(land, day, variant), owners(land, day, known, variant)]
        return asked

    def questions(self, days=DAYS, knowns=DAYS):
        """The calls 8 to 11, 13 to 15, 18 and 19."""
        asked = []
        for day, known in itertools.product(days, knowns):
            asked += self.cell_questions(day, known)
            for land in LANDS:
                asked += [free(person, land, day, known) for person in (1, 2, 20)]
                asked += [parts(person, r[1], land, day, known) for r in self.rights for person in (1, 2)]
            others = list(itertools.product(days, knowns))[::2]
            asked += [same(r[1], day, known, *other) for r in self.rights for other in others]
        return asked

    def deed_questions(self, deeds, knowns=DAYS):
        """The call 12 for each deed that may be asked for."""
        return [effect(deed[1], known) for deed in deeds if deed[0] in (2, 3, 4) for known in knowns]

    def ask(self, deeds, questions, rights=None):
        before = [field(*self.leaves), *(rights or self.rights), *deeds]
        room = MOST_CALLS - len(before)
        told_all = []
        for start in range(0, len(questions), room):
            found = run(*before, *questions[start:start + room])
            assert all(answer[0] >= 0 for answer in found[:len(before)]), found[:len(before)]
            told_all += found[len(before):]
        return told_all


def about(deed):
    return deed[ABOUT] if deed[0] >= 5 else None


def without(deeds, numbers):
    """The deeds but some, and but those that are about one that is left out."""
    gone = set(numbers)
    kept = []
    for deed in deeds:
        if deed[1] in gone or about(deed) in gone:
            gone.add(deed[1])
        else:
            kept.append(deed)
    return kept


class FirstPromiseTest(unittest.TestCase):

    def test_in_which_order_deeds_come_in_makes_no_difference(self):
        for seed in range(WORLDS):
            world = World(seed)
            questions = world.questions(days=(1, 3, 5), knowns=(2, 5)) + world.deed_questions(world.deeds)
            questions += [told(deed[1]) for deed in world.deeds] + [all_deeds()]
            expected = world.ask(world.deeds, questions)
            for again in range(2):
                self.assertEqual(world.ask(world.shuffled(world.deeds), questions), expected, seed)
            self.assertEqual(world.ask(world.deeds, questions, world.rights[::-1]), expected, seed)

    def test_what_becomes_known_later_changes_nothing_of_what_was_known(self):
        for seed in range(WORLDS):
            world = World(seed)
            for known in (0, 1, 3):
                later = {deed[1] for deed in world.deeds if deed[KNOWN] > known}
                kept = without(world.deeds, later)
                questions = world.questions(days=(2, 5), knowns=range(known + 1)[-2:])
                questions += world.deed_questions(kept, knowns=range(known + 1))
                found = world.ask(world.deeds, questions)
                self.assertEqual(found, world.ask(kept, questions), (seed, known))

    def test_it_changes_something_as_known_later(self):
        deeds = [right(), transfer(1, 1, 2, 30, known=5), annul(2, 1, known=8)]
        found = [last(*deeds, holders(known=known)) for known in (4, 5, 7, 8)]
        self.assertEqual(found, [[0, 1, 120], [0, 1, 90, 2, 30], [0, 1, 90, 2, 30], [0, 1, 120]])


class SecondPromiseTest(unittest.TestCase):

    def test_all_parts_together_are_120(self):
        for seed in range(WORLDS):
            world = World(seed, many=30)
            questions = [call for call in world.questions(knowns=(1, 3, 5)) if call[0] == 8]
            found = [answer for answer in world.ask(world.deeds, questions) if answer != [-7]]
            self.assertTrue(found)
            for answer in found:
                self.assertEqual(answer[0], 0)
                self.assertEqual(sum(answer[2::2]), 120, seed)
                self.assertTrue(all(parts >= 1 for parts in answer[2::2]), seed)

    def test_over_all_persons_parts_tells_120_for_each_cell(self):
        for seed in range(WORLDS):
            world = World(seed, many=30)
            for r, land in itertools.product(world.rights, LANDS):
                cells = [holders(r[1], land, variant=variant) for place, variant in world.cells() if place == land]
                many = len([answer for answer in world.ask([], cells) if answer != [-7]])
                for day, known in itertools.product((0, 3, 5), (2, 5)):
                    questions = [parts(person, r[1], land, day, known) for person in range(1, 21)]
                    found = world.ask(world.deeds, questions)
                    self.assertEqual(sum(answer[1] for answer in found), 120 * many, seed)
                    self.assertTrue(all(0 <= answer[0] <= many for answer in found), seed)
                    self.assertTrue(all((answer[0] == 0) == (answer[1] == 0) for answer in found), seed)

    def test_nobody_gives_what_is_not_theirs(self):
        more = [transfer(1, 1, 3, 100), pledge(2, 2, 4, 100), pledge(3, 2, 5, 100), transfer(4, 2, 3, 100),
                seize(5, 2), seize(6, 3), release(7, 2), seize(8, 2), transfer(9, 6, 7, 120), pledge(10, 6, 7, 120),
                seize(11, 10), transfer(12, 4, 1, 120), transfer(13, 3, 3, 120)]
        expected = [[0, 2, 60, 3, 60]] * 4 + [[0, 3, 60, 4, 60]] * 7 + [[0, 1, 60, 3, 60]] * 2
        for many in range(1, len(more) + 1):
            answer = last(right(owners=(1, 60, 2, 60)), *more[:many], holders())
            self.assertEqual(answer, expected[many - 1], many)


class ThirdPromiseTest(unittest.TestCase):

    def test_an_annulled_deed_is_as_if_it_had_never_been(self):
        for seed in range(WORLDS):
            world = World(seed)
            for deed in world.deeds:
                if deed[0] == 7:
                    continue
                known = world.dice.choice(DAYS)
                annulment = annul(999, deed[1], known, world.dice.choice(DAYS))
                kept = without(world.deeds, {deed[1]})
                behind = world.questions(knowns=DAYS[known:][:2], days=(1, 5))
                behind += world.deed_questions(kept, knowns=DAYS[known:][:2])
                found = world.ask(world.deeds + [annulment], behind)
                self.assertEqual(found, world.ask(kept, behind), (seed, deed))
                before = world.questions(knowns=DAYS[:known][-1:], days=(1, 5))
                before += world.deed_questions(world.deeds, knowns=DAYS[:known][-1:])
                found = world.ask(world.deeds + [annulment], before)
                self.assertEqual(found, world.ask(world.deeds, before), (seed, deed))

    def test_each_kind_of_deed(self):
        half = right(owners=(1, 60, 2, 60))
        deeds = [transfer(1, 1, 3, 20), sole(2, 1, 5), pledge(3, 1, 4, 30), transfer(4, 1, 7, 20), release(5, 3),
                 pledge(6, 2, 4, 30), seize(7, 6), transfer(8, 1, 6, 60)]
        questions = [holders(), leave(1), leave(9), free(1), parts(4), locks(), bound(), owners()]
        everything = run(half, *deeds, *questions)[-8:]
        needed = [0, 2, 3, 4, 5]
        bonds = [0, 2, 1, 2, 7, 2, 6]
        self.assertEqual(everything, [[0, 2, 30, 3, 20, 4, 30, 6, 30, 7, 10], needed, needed, [0, 0], [2, 60], [0],
                                      bonds, [0, 2, 3, 4, 6, 7]])
        for deed in deeds:
            found = run(half, *deeds, annul(9, deed[1], known=7), *questions, holders(known=6), bound(known=6))
            gone = run(half, *without(deeds, {deed[1]}), *questions)[-8:]
            self.assertNotEqual(gone, everything)
            self.assertEqual(found[-10:-2], gone)
            self.assertEqual(found[-2:], [everything[0], everything[6]])

    def test_same_as_known_with_the_annulment(self):
        deeds = [right(), transfer(1, 1, 2, 30, recorded=5), annul(2, 1, known=7)]
        self.assertEqual(last(*deeds, same(day=4, known=7, day2=5, known2=7)), [1])
        self.assertEqual(last(*deeds, same(day=4, known=6, day2=5, known2=6)), [0, 0, 0])
        self.assertEqual(last(*deeds, same(day=5, known=6, day2=5, known2=7)), [0, 0, 0])


class FourthPromiseTest(unittest.TestCase):

    def told_of_right(self, world, of, question):
        """Who is told because of that right alone."""
        others = {deed[1] for deed in world.deeds if deed[0] in (2, 3, 4) and deed[RIGHT] != of[1]}
        kept = without(world.deeds, others)
        return world.ask(kept, [question], [of])[0][1:]

    def check(self, world, person, land, variant, day, known):
        question = leave(person, land, day, known, variant)
        how_free = free(person, land, day, known)
        needed = world.ask(world.deeds, [question])[0][1:]
        box = [2 ** leaf for leaf in variant]
        licences = []
        found = set()
        for of in world.rights:
            for giver in self.told_of_right(world, of, question):
                make = world.dice.choice((licence, sole))
                licences.append(make(950 + len(licences), giver, person, begin=day, to=day, known=known,
                                     recorded=day, of=of[1], lands=2 ** land, box=box))
                found.add(giver)
        self.assertEqual(sorted(found), needed)
        self.assertNotIn(person, needed)
        self.assertEqual(world.ask(world.deeds + licences, [question]), [[0]])
        before = world.ask(world.deeds, [how_free])[0]
        behind = world.ask(world.deeds + licences, [how_free])[0]
        # The licences are for this variant alone.
        self.assertEqual(behind[0], before[0] + (1 if licences else 0))
        self.assertNotEqual(behind[1:], list(variant))
        if licences:
            self.assertNotEqual(world.ask(world.deeds + licences[1:], [question]), [[0]])
        return len(needed)

    def test_with_a_licence_from_each_of_those_told_nobody_is_asked(self):
        needed = 0
        for seed in range(WORLDS):
            world = World(seed, many=24)
            for land, variant in world.cells():
                person = world.dice.choice((1, 2, 3, 20))
                needed += self.check(world, person, land, variant, world.dice.choice((2, 5)), world.dice.choice((2, 5)))
        self.assertGreater(needed, WORLDS)

    def test_free_counts_the_variant(self):
        before = [field(2, 3), right(boxes=(3, 7), owners=(1, 60, 2, 60)), sole(1, 1, 3, box=(3, 7))]
        self.assertEqual(run(*before, leave(9, variant=(0, 1)), free(9))[3:], [[0, 2, 3], [0, 0, 0]])
        licences = [licence(5, 2, 9, box=(1, 2)), licence(6, 3, 9, box=(1, 2))]
        self.assertEqual(last(*before, *licences, free(9)), [1, 0, 0])
        self.assertEqual(last(*before, licences[0], free(9)), [0, 0, 0])

    def test_a_chain_and_two_rights(self):
        before = [right(owners=(1, 60, 2, 60)), right(2, owners=(2, 120)), sole(1, 1, 3), sole(2, 3, 4)]
        self.assertEqual(last(*before, leave(9)), [0, 2, 4])
        self.assertEqual(last(*before, licence(5, 4, 9), licence(6, 2, 9), leave(9)), [0, 2])
        self.assertEqual(last(*before, licence(5, 4, 9), licence(6, 2, 9), licence(7, 2, 9, of=2), leave(9)), [0])
