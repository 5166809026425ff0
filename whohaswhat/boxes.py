"""Sets of lands, variants and boxes. A set is told by the bits of a whole number."""


def has_bit(bits, place):
    return (bits >> place) & 1 == 1


def in_box(box, variant):
    return all([has_bit(bits, leaf) for bits, leaf in zip(box, variant)])


def in_some_box(boxes, variant):
    return any([in_box(box, variant) for box in boxes])


def cut_boxes(features, row):
    """The boxes of a row in which they stand one behind the other."""
    return [row[start:start + features] for start in range(0, len(row), features)]


def variants_of(field):
    """All variants, in their order."""
    found = [[]]
    for leaves in field:
        found = [found[at // leaves] + [at % leaves] for at in range(len(found) * leaves)]
    return found
