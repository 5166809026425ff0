"""The calls field and right."""

import unittest

from tests.helper import field, holders, last, leave, right, run, transfer


def probes():
    """Calls that show a field of one feature with 2 leaves, the rights 1 and 2, and how many rights and deeds."""
    shown = [holders(of, land, variant=(leaf,)) for of in (1, 2) for land in range(4) for leaf in range(2)]
    shown += [leave(person, day=day) for person in (1, 2, 9) for day in (0, 5, 50)]
    return shown + [right(90), transfer(900, 1, 2, 1)]


class FieldTest(unittest.TestCase):

    def test_done(self):
        for leaves in ((1,), (8,), (8, 8), (2, 2, 2, 2, 2, 2), (1, 1, 1, 1, 1, 1), (1, 8, 1, 8, 1, 1), (4, 4, 4),
                       (7, 8), (1, 2, 4, 8)):
            self.assertEqual(run(field(*leaves)), [[0]], leaves)

    def test_wrong_form(self):
        for leaves in ((), (0,), (9,), (-1,), (1, 0), (8, 9), (1,) * 7, (8, 8, 2), (5, 5, 3), (3, 3, 8), (2,) * 7,
                       (8, 8, 0), (-8, -8), (-1, -1), (64,), (65, 1)):
            self.assertEqual(run(field(*leaves)), [[-4]], leaves)

    def test_every_variant_of_a_field_of_64(self):
        for leaves in ((8, 8), (4, 4, 4), (2,) * 6):
            variants = [[]]
            for many in leaves:
                variants = [variant + [leaf] for variant in variants for leaf in range(many)]
            self.assertEqual(len(variants), 64)
            whole = [2 ** many - 1 for many in leaves]
            found = run(field(*leaves), right(boxes=whole), *[holders(variant=variant) for variant in variants])
            self.assertEqual(found[2:], [[0, 1, 120]] * 64)

    def test_refused_changes_nothing(self):
        before = [field(2), right(), right(2, first=5, last=9, owners=(2, 120)), transfer(1, 1, 3, 50)]
        expected = run(*before, *probes())
        found = run(*before, field(9), *probes())
        self.assertEqual(found[4], [-4])
        self.assertEqual(found[:4] + found[5:], expected)


class RightTest(unittest.TestCase):

    def test_answers_how_many(self):
        self.assertEqual(run(*[right(r) for r in (5, 99, 1)]), [[1], [2], [3]])

    def test_eight_rights(self):
        rights = [right(r) for r in range(1, 9)]
        self.assertEqual(run(*rights, right(9), right(8)), [[r] for r in range(1, 9)] + [[-9], [-6]])

    def test_edges_of_ranges(self):
        for call in (right(1), right(99), right(first=0, last=0), right(first=100000, last=100000),
                     right(first=0, last=100000), right(lands=1), right(lands=15)):
            self.assertEqual(run(call), [[1]], call)

    def test_out_of_range(self):
        for call in (right(0), right(100), right(first=-1), right(first=100001), right(last=-1), right(last=100001),
                     right(lands=0), right(lands=16), right(lands=-1)):
            self.assertEqual(run(call, right()), [[-3], [1]], call)

    def test_boxes(self):
        for boxes in ((1,), (3,), (1, 2), (3,) * 8):
            self.assertEqual(run(right(boxes=boxes)), [[1]], boxes)
        for boxes in ((), (0,), (4,), (-1,), (1, 0), (1, 4), (3,) * 9):
            self.assertEqual(run(right(boxes=boxes)), [[-4]], boxes)

    def test_boxes_of_several_features(self):
        for boxes in ((1, 1), (7, 255), (4, 128, 1, 1), (7, 1) * 8):
            self.assertEqual(last(field(3, 8), right(boxes=boxes)), [1], boxes)
        for boxes in ((1,), (8, 1), (1, 256), (1, 1, 1), (1, 1, 0, 1), (1, 1, 1, 0), (1, 1, 1, 256), (7, 1) * 9):
            self.assertEqual(last(field(3, 8), right(boxes=boxes)), [-4], boxes)

    def test_eight_boxes_of_six_features(self):
        boxes = (1, 1, 1, 1, 1, 1, 2, 2, 2, 2, 2, 2) * 4
        found = run(field(*[2] * 6), right(boxes=boxes), holders(variant=[0] * 6), holders(variant=[1] * 6),
                    holders(variant=[0, 0, 0, 0, 0, 1]))
        self.assertEqual(found, [[0], [1], [0, 1, 120], [0, 1, 120], [-7]])

    def test_owners(self):
        twenty = [number for person in range(1, 21) for number in (person, 6)]
        for owners in ((1, 120), (20, 120), (1, 1, 2, 119), (3, 119, 20, 1), twenty):
            self.assertEqual(run(right(owners=owners), holders()), [[1], [0, *owners]], owners)

    def test_owners_of_wrong_form(self):
        for owners in ((), (1,), (1, 119), (1, 121), (0, 120), (21, 120), (-1, 120), (2, 60, 1, 60), (1, 60, 1, 60),
                       (1, 120, 2, 0), (1, 0, 2, 120), (1, 121, 2, -1), (1, 60, 2), (1, 60, 2, 60, 3),
                       (1, 60, 21, 60), (1, 60, 2, 61), (1, 120, 2)):
            self.assertEqual(run(right(owners=owners)), [[-4]], owners)

    def test_there_already(self):
        self.assertEqual(run(right(3), right(4), right(3)), [[1], [2], [-6]])

    def test_last_before_first(self):
        self.assertEqual(run(right(first=5, last=4)), [[-7]])
        self.assertEqual(run(right(first=5, last=5)), [[1]])

    def test_first_refusal_that_is_due(self):
        eight = [right(r) for r in range(1, 9)]
        bad = (9, 9, 9)
        self.assertEqual(last(*eight, right(100, first=5, last=4, boxes=bad, owners=bad)), [-3])
        self.assertEqual(last(*eight, right(1, first=5, last=4, lands=16, boxes=bad)), [-3])
        self.assertEqual(last(*eight, right(1, first=5, last=4, owners=bad)), [-4])
        self.assertEqual(last(*eight, right(1, first=5, last=4, boxes=bad)), [-4])
        self.assertEqual(last(*eight, right(1, first=5, last=4)), [-6])
        self.assertEqual(last(*eight, right(9, first=5, last=4)), [-7])
        self.assertEqual(last(*eight, right(9)), [-9])

    def test_refused_changes_nothing(self):
        two = [right(), right(2, first=5, last=9, boxes=(1,), owners=(2, 120))]
        seven = two + [right(r) for r in range(3, 9)]
        for before, call, refusal in (
                (two, right(100), -3), (two, right(3, owners=(1, 119)), -4), (two, right(3, boxes=(4,)), -4),
                (two, right(1, owners=(9, 120)), -6), (two, right(2, first=0, owners=(9, 120)), -6),
                (two, right(3, first=5, last=4), -7), (seven, right(9, owners=(9, 120)), -9)):
            expected = run(*before, *probes())
            found = run(*before, call, *probes())
            self.assertEqual(found[len(before)], [refusal])
            self.assertEqual(found[:len(before)] + found[len(before) + 1:], expected)
