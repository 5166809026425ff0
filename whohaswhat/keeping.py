"""The calls that change what is kept: a new field, new rights, new deeds."""

from whohaswhat.boxes import cut_boxes, in_box, in_some_box, variants_of
from whohaswhat.ledger import ANNULMENT, LICENCE, PLEDGE, RELEASE, SEIZURE, TRANSFER, Deed, Right
from whohaswhat.refusals import NOT_FITTING, THERE_ALREADY, TOO_MANY

MOST_RIGHTS = 8
MOST_DEEDS = 60


def set_field(ledger, call):
    ledger.field = call.rows[0]
    ledger.variants = variants_of(ledger.field)
    ledger.rights = {}
    ledger.deeds = {}
    return [0]


def right_of(ledger, call):
    right = Right(call.wholes[0], call.wholes[1], call.wholes[2], call.wholes[3])
    boxes = cut_boxes(len(ledger.field), call.rows[0])
    right.covered = [in_some_box(boxes, variant) for variant in ledger.variants]
    owners = call.rows[1]
    for at in range(0, len(owners), 2):
        right.owners[owners[at]] = owners[at + 1]
    return right


def add_right(ledger, call):
    right = right_of(ledger, call)
    if right.number in ledger.rights:
        return [THERE_ALREADY]
    if right.last < right.first:
        return [NOT_FITTING]
    if len(ledger.rights) >= MOST_RIGHTS:
        return [TOO_MANY]
    ledger.rights[right.number] = right
    return [len(ledger.rights)]


def add_deed(ledger, deed):
    if deed.number in ledger.deeds:
        return [THERE_ALREADY]
    if len(ledger.deeds) >= MOST_DEEDS:
        return [TOO_MANY]
    ledger.deeds[deed.number] = deed
    return [len(ledger.deeds)]


def deed_of(kind, call):
    return Deed(kind, call.wholes[0], call.wholes[1], call.wholes[2])


def grant_of(kind, ledger, call):
    """A deed of a right, from a giver to a taker, for some lands and a box."""
    deed = deed_of(kind, call)
    deed.right = call.wholes[3]
    deed.giver = call.wholes[4]
    deed.taker = call.wholes[5]
    deed.lands = call.wholes[-1]
    deed.box = call.rows[0]
    deed.covered = [in_box(deed.box, variant) for variant in ledger.variants]
    return deed


def parts_deed_of(kind, ledger, call):
    deed = grant_of(kind, ledger, call)
    deed.parts = call.wholes[6]
    return deed


def deed_about_of(kind, call):
    deed = deed_of(kind, call)
    deed.about = call.wholes[3]
    return deed


def add_transfer(ledger, call):
    return add_deed(ledger, parts_deed_of(TRANSFER, ledger, call))


def add_licence(ledger, call):
    deed = grant_of(LICENCE, ledger, call)
    deed.sole = call.wholes[6]
    deed.begin = call.wholes[7]
    deed.to = call.wholes[8]
    return add_deed(ledger, deed)


def add_pledge(ledger, call):
    return add_deed(ledger, parts_deed_of(PLEDGE, ledger, call))


def add_release(ledger, call):
    return add_deed(ledger, deed_about_of(RELEASE, call))


def add_seizure(ledger, call):
    return add_deed(ledger, deed_about_of(SEIZURE, call))


def add_annulment(ledger, call):
    return add_deed(ledger, deed_about_of(ANNULMENT, call))


# By the call's number.
KEEPERS = (
    set_field,
    add_right,
    add_transfer,
    add_licence,
    add_pledge,
    add_release,
    add_seizure,
    add_annulment,
)


def keep(ledger, call):
    keeper = KEEPERS[call.number]
    return keeper(ledger, call)
