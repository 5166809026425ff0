"""The refusals, and those that all calls share."""

from whohaswhat.calls import LISTS, WHOLES
from whohaswhat.forms import has_form, in_range

OUT_OF_RANGE = -3
WRONG_FORM = -4
NOT_THERE = -5
THERE_ALREADY = -6
NOT_FITTING = -7
TOO_MANY = -9

# Which kinds of deeds a call may mean that names one which should be there.
KINDS_MEANT = {
    "pledge": (2,),
    "no annulment": (0, 1, 2, 3, 4),
    "grant": (0, 1, 2),
    "deed": (0, 1, 2, 3, 4, 5),
}


def is_there(ledger, name, number):
    if name == "right":
        return number in ledger.rights
    if name in KINDS_MEANT:
        return number in ledger.deeds and ledger.deeds[number].kind in KINDS_MEANT[name]
    return True


def shared_refusal(ledger, call):
    """The first of the refusals that all calls share, or 0 if none is due."""
    names = WHOLES[call.number]
    if not all([in_range(name, whole) for name, whole in zip(names, call.wholes)]):
        return OUT_OF_RANGE
    if not all([has_form(name, ledger.field, row) for name, row in zip(LISTS[call.number], call.rows)]):
        return WRONG_FORM
    if not all([is_there(ledger, name, whole) for name, whole in zip(names, call.wholes)]):
        return NOT_THERE
    return 0
