"""The calls on rights and deeds, and what they answer."""

from whohaswhat.asking import leave_needed
from whohaswhat.boxes import cut_boxes
from whohaswhat.calls import LISTS, WHOLES, split_calls
from whohaswhat.cells import cell_behind
from whohaswhat.forms import has_form, in_range
from whohaswhat.ledger import ANNULMENT, LICENCE, PLEDGE, RELEASE, SEIZURE, TRANSFER
from whohaswhat.ledger import Deed, Ledger, Right, is_cell, worked_deeds

NO_CALL = -100
OUT_OF_RANGE = -3
WRONG_FORM = -4
NOT_THERE = -5
THERE_ALREADY = -6
NOT_FITTING = -7
TOO_MANY = -9

MOST_RIGHTS = 8
MOST_DEEDS = 60

# Which kinds of deeds a call may mean that names one which should be there.
KINDS_MEANT = {
    "pledge": (2,),
    "no annulment": (0, 1, 2, 3, 4),
}


def is_there(ledger, name, number):
    if name == "right":
        return number in ledger.rights
    if name in KINDS_MEANT:
        return number in ledger.deeds and ledger.deeds[number].kind in KINDS_MEANT[name]
    return True


def shared_refusal(ledger, call):
    """The first of the refusals that all calls share, or 0 if none is due."""
    names = WHOLES[call.number]
    if not all([in_range(name, whole) for name, whole in zip(names, call.wholes)]):
        return OUT_OF_RANGE
    if not all([has_form(name, ledger.field, row) for name, row in zip(LISTS[call.number], call.rows)]):
        return WRONG_FORM
    if not all([is_there(ledger, name, whole) for name, whole in zip(names, call.wholes)]):
        return NOT_THERE
    return 0


def set_field(ledger, call):
    ledger.field = call.rows[0]
    ledger.rights = {}
    ledger.deeds = {}
    return [0]


def right_of(ledger, call):
    right = Right(call.wholes[0], call.wholes[1], call.wholes[2], call.wholes[3])
    right.boxes = cut_boxes(len(ledger.field), call.rows[0])
    owners = call.rows[1]
    for at in range(0, len(owners), 2):
        right.owners[owners[at]] = owners[at + 1]
    return right


def add_right(ledger, call):
    right = right_of(ledger, call)
    if right.number in ledger.rights:
        return [THERE_ALREADY]
    if right.last < right.first:
        return [NOT_FITTING]
    if len(ledger.rights) >= MOST_RIGHTS:
        return [TOO_MANY]
    ledger.rights[right.number] = right
    return [len(ledger.rights)]


def add_deed(ledger, deed):
    if deed.number in ledger.deeds:
        return [THERE_ALREADY]
    if len(ledger.deeds) >= MOST_DEEDS:
        return [TOO_MANY]
    ledger.deeds[deed.number] = deed
    return [len(ledger.deeds)]


def deed_of(kind, call):
    return Deed(kind, call.wholes[0], call.wholes[1], call.wholes[2])


def grant_of(kind, call):
    """A deed of a right, from a giver to a taker, for some lands and a box."""
    deed = deed_of(kind, call)
    deed.right = call.wholes[3]
    deed.giver = call.wholes[4]
    deed.taker = call.wholes[5]
    deed.lands = call.wholes[-1]
    deed.box = call.rows[0]
    return deed


def parts_deed_of(kind, call):
    deed = grant_of(kind, call)
    deed.parts = call.wholes[6]
    return deed


def deed_about_of(kind, call):
    deed = deed_of(kind, call)
    deed.about = call.wholes[3]
    return deed


def add_transfer(ledger, call):
    return add_deed(ledger, parts_deed_of(TRANSFER, call))


def add_licence(ledger, call):
    deed = grant_of(LICENCE, call)
    deed.sole = call.wholes[6]
    deed.begin = call.wholes[7]
    deed.to = call.wholes[8]
    return add_deed(ledger, deed)


def add_pledge(ledger, call):
    return add_deed(ledger, parts_deed_of(PLEDGE, call))


def add_release(ledger, call):
    return add_deed(ledger, deed_about_of(RELEASE, call))


def add_seizure(ledger, call):
    return add_deed(ledger, deed_about_of(SEIZURE, call))


def add_annulment(ledger, call):
    return add_deed(ledger, deed_about_of(ANNULMENT, call))


def tell_holders(ledger, call):
    right = ledger.rights[call.wholes[0]]
    land = call.wholes[1]
    variant = call.rows[0]
    if not is_cell(right, land, variant):
        return [NOT_FITTING]
    deeds = worked_deeds(ledger, right, land, variant, call.wholes[2], call.wholes[3])
    held = cell_behind(right, deeds).held
    answer = [0]
    for person in sorted(held):
        answer.append(person)
        answer.append(held[person])
    return answer


def tell_leave(ledger, call):
    wholes = call.wholes
    return [0] + leave_needed(ledger, wholes[0], wholes[1], call.rows[0], wholes[2], wholes[3])


# By the call's number.
ANSWERERS = (
    set_field,
    add_right,
    add_transfer,
    add_licence,
    add_pledge,
    add_release,
    add_seizure,
    add_annulment,
    tell_holders,
    tell_leave,
)


def answer_call(ledger, call):
    if call.number >= len(ANSWERERS):
        return [NO_CALL]
    refusal = shared_refusal(ledger, call)
    if refusal < 0:
        return [refusal]
    answerer = ANSWERERS[call.number]
    return answerer(ledger, call)


def answers(calls):
    ledger = Ledger()
    told = []
    for call in split_calls(calls):
        answer = answer_call(ledger, call)
        told.append(len(answer))
        told.extend(answer)
    return told
