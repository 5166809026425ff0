"""What is kept: the field, the rights and the deeds, and which deeds count as known on a day."""

from whohaswhat.boxes import has_bit, in_box

TRANSFER = 0
LICENCE = 1
PLEDGE = 2
RELEASE = 3
SEIZURE = 4
ANNULMENT = 5


class Right:
    """A right; boxes is a list of boxes, owners a dict from persons to their parts."""

    def __init__(self, number, first, last, lands):
        self.number = number
        self.first = first
        self.last = last
        self.lands = lands
        self.boxes = []
        self.owners = {}


class Deed:
    """A deed; what its kind does not tell stays 0 or empty."""

    def __init__(self, kind, number, known, recorded):
        self.kind = kind
        self.number = number
        self.known = known
        self.recorded = recorded
        self.right = 0
        self.giver = 0
        self.taker = 0
        self.parts = 0
        self.sole = 0
        self.begin = 0
        self.to = 0
        self.lands = 0
        self.about = 0
        self.box = []


class Ledger:
    """A field of one feature with 2 leaves, until another is told, with its rights and deeds."""

    def __init__(self):
        self.field = [2]
        self.rights = {}
        self.deeds = {}


def is_cell(right, land, variant):
    return has_bit(right.lands, land) and any([in_box(box, variant) for box in right.boxes])


def in_force(right, land, variant, day):
    return right.first <= day <= right.last and is_cell(right, land, variant)


def work_order(deed):
    return (deed.recorded, deed.number)


def annulled_deeds(ledger, known):
    annulled = {}
    for deed in ledger.deeds.values():
        if deed.kind == ANNULMENT and deed.known <= known:
            annulled[deed.about] = True
    return annulled


def counted_deeds(ledger, known):
    """The counted deeds as known, annulments left out, in the order in which they work."""
    annulled = annulled_deeds(ledger, known)
    there = [deed for deed in ledger.deeds.values() if deed.known <= known and deed.kind != ANNULMENT]
    return sorted([deed for deed in there if deed.number not in annulled], key=work_order)


def ground_deed(ledger, deed):
    """The deed that tells which right, lands and box a deed is for."""
    if deed.kind == RELEASE or deed.kind == SEIZURE:
        return ledger.deeds[deed.about]
    return deed


def covers(ledger, deed, right, land, variant):
    ground = ground_deed(ledger, deed)
    return ground.right == right.number and has_bit(ground.lands, land) and in_box(ground.box, variant)


def worked_deeds(ledger, right, land, variant, day, known):
    """The counted deeds that cover the cell and have worked on the day, in their order."""
    recorded = [deed for deed in counted_deeds(ledger, known) if deed.recorded <= day]
    return [deed for deed in recorded if covers(ledger, deed, right, land, variant)]
