"""What is kept: the field, the rights and the deeds, and which deeds count as known on a day.

A variant is told by its place among all variants in their order.
"""

from whohaswhat.boxes import has_bit, variants_of

TRANSFER = 0
LICENCE = 1
PLEDGE = 2
RELEASE = 3
SEIZURE = 4
ANNULMENT = 5

LANDS = (0, 1, 2, 3)


class Right:
    """A right; covered tells by a variant's place whether it has it, owners is a dict from persons to parts."""

    def __init__(self, number, first, last, lands):
        self.number = number
        self.first = first
        self.last = last
        self.lands = lands
        self.covered = []
        self.owners = {}


class Deed:
    """A deed; what its kind does not tell stays 0 or empty. covered tells by a variant's place what its box holds."""

    def __init__(self, kind, number, known, recorded):
        self.kind = kind
        self.number = number
        self.known = known
        self.recorded = recorded
        self.right = 0
        self.giver = 0
        self.taker = 0
        self.parts = 0
        self.sole = 0
        self.begin = 0
        self.to = 0
        self.lands = 0
        self.about = 0
        self.box = []
        self.covered = []


class Ledger:
    """A field of one feature with 2 leaves, until another is told, with its rights and deeds."""

    def __init__(self):
        self.field = [2]
        self.variants = variants_of(self.field)
        self.rights = {}
        self.deeds = {}


def lands_of(right):
    return [land for land in LANDS if has_bit(right.lands, land)]


def places_of(right):
    return [place for place, covered in enumerate(right.covered) if covered]


def is_cell(right, land, place):
    return has_bit(right.lands, land) and right.covered[place]


def rights_in_force(ledger, land, place, day):
    """The rights in force for the cell on the day, by rising numbers."""
    there = [ledger.rights[number] for number in sorted(ledger.rights)]
    return [right for right in there if right.first <= day <= right.last and is_cell(right, land, place)]


def work_order(deed):
    return (deed.recorded, deed.number)


def deeds_in_order(ledger):
    """All deeds, annulments and annulled ones too, in the order in which they work."""
    return sorted(ledger.deeds.values(), key=work_order)


def annulled_deeds(ledger, known):
    annulled = {}
    for deed in ledger.deeds.values():
        if deed.kind == ANNULMENT and deed.known <= known:
            annulled[deed.about] = True
    return annulled


def counted_deeds(ledger, known):
    """The counted deeds as known, annulments left out, in the order in which they work."""
    annulled = annulled_deeds(ledger, known)
    there = [deed for deed in deeds_in_order(ledger) if deed.known <= known and deed.kind != ANNULMENT]
    return [deed for deed in there if deed.number not in annulled]


def worked_deeds(ledger, day, known):
    """The counted deeds that have worked on the day, in their order."""
    return [deed for deed in counted_deeds(ledger, known) if deed.recorded <= day]


def deeds_before(deeds, last):
    return [deed for deed in deeds if work_order(deed) < work_order(last)]


def deeds_on_parts(deeds):
    """The deeds on which it hangs who holds what; licences change no parts."""
    return [deed for deed in deeds if deed.kind != LICENCE]


def ground_deed(ledger, deed):
    """The deed that tells which right, lands and box a deed is for."""
    if deed.kind == RELEASE or deed.kind == SEIZURE:
        return ledger.deeds[deed.about]
    return deed


def covers(ledger, deed, right, land, place):
    ground = ground_deed(ledger, deed)
    return ground.right == right.number and ground.covered[place] and has_bit(ground.lands, land)


def covering_deeds(ledger, deeds, right, land, place):
    return [deed for deed in deeds if covers(ledger, deed, right, land, place)]
