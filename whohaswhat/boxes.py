"""Sets of lands, variants and boxes. A set is told by the bits of a whole number."""


def has_bit(bits, place):
    return (bits >> place) & 1 == 1


def in_box(box, variant):
    return all([has_bit(bits, leaf) for bits, leaf in zip(box, variant)])


def cut_boxes(features, row):
    """The boxes of a row in which they stand one behind the other."""
    return [row[start:start + features] for start in range(0, len(row), features)]
