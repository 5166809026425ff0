"""The ranges of whole numbers and the forms of lists that the calls ask for."""

from whohaswhat.boxes import cut_boxes

MOST_FEATURES = 6
MOST_LEAVES = 8
MOST_VARIANTS = 64
MOST_BOXES = 8
LAST_PERSON = 20
ALL_PARTS = 120

# The numbers of rights and deeds that should be there have no range.
RANGES = {
    "new right": (1, 99),
    "new deed": (1, 999),
    "day": (0, 100000),
    "land": (0, 3),
    "lands": (1, 15),
    "person": (1, 20),
    "parts": (1, 120),
    "sole": (0, 1),
}


def in_range(name, number):
    if name not in RANGES:
        return True
    bounds = RANGES[name]
    return bounds[0] <= number <= bounds[1]


def is_leaves(row):
    if len(row) < 1 or len(row) > MOST_FEATURES:
        return False
    variants = 1
    for leaves in row:
        if leaves < 1 or leaves > MOST_LEAVES:
            return False
        variants = variants * leaves
    return variants <= MOST_VARIANTS


def is_box(field, row):
    if len(row) != len(field):
        return False
    return all([bits >= 1 and bits >> leaves == 0 for bits, leaves in zip(row, field)])


def is_boxes(field, row):
    boxes = cut_boxes(len(field), row)
    if len(boxes) < 1 or len(boxes) > MOST_BOXES:
        return False
    return all([is_box(field, box) for box in boxes])


def is_owners(row):
    if len(row) % 2 != 0:
        return False
    before = 0
    together = 0
    for at in range(0, len(row), 2):
        if row[at] <= before or row[at] > LAST_PERSON or row[at + 1] < 1:
            return False
        before = row[at]
        together = together + row[at + 1]
    return together == ALL_PARTS


def is_variant(field, row):
    if len(row) != len(field):
        return False
    return all([0 <= leaf < leaves for leaf, leaves in zip(row, field)])


def has_form(name, field, row):
    if name == "leaves":
        return is_leaves(row)
    if name == "boxes":
        return is_boxes(field, row)
    if name == "owners":
        return is_owners(row)
    if name == "box":
        return is_box(field, row)
    return is_variant(field, row)
