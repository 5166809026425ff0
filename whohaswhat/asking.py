"""Whom a person must ask for leave."""

from whohaswhat.cells import cell_behind
from whohaswhat.ledger import LICENCE, covering_deeds, rights_in_force, work_order


def licences_of_day(deeds, day):
    return [deed for deed in deeds if deed.kind == LICENCE and deed.begin <= day <= deed.to]


def licences_behind(licences, sole):
    """What the taker of a sole licence has given behind it."""
    given = [licence for licence in licences if licence.giver == sole.taker]
    return [licence for licence in given if work_order(licence) > work_order(sole)]


def early_licences(licences):
    early = []
    for licence in licences:
        if licence.sole == 1:
            break
        early.append(licence)
    return early


def asked_for(person, holder, among, licences):
    """Who is to be asked for the holder among some of the licences; None if it's nobody."""
    asked = holder
    # Each turn goes on behind the sole licence of the one before, so there is a last one.
    while True:
        early = early_licences(among)
        if person in [licence.taker for licence in early]:
            return None
        if len(early) == len(among):
            return asked
        sole = among[len(early)]
        if sole.taker == person:
            return None
        asked = sole.taker
        among = licences_behind(licences, sole)


def may_use_own(person, cell, binding):
    """Whether the person holds parts and none of the licences binding them is another's sole one."""
    if person not in cell.held:
        return False
    return not any([licence.sole == 1 and licence.taker != person for licence in binding])


def binding_licences(cell, person, licences):
    binding = cell.bonds.get(person, {})
    return [licence for licence in licences if licence.number in binding]


def asked_of_right(person, right, deeds, day):
    """Those to be asked because of a right, by the deeds that have worked in its cell."""
    cell = cell_behind(right, deeds)
    licences = licences_of_day(deeds, day)
    if may_use_own(person, cell, binding_licences(cell, person, licences)):
        return []
    found = [asked_for(person, holder, binding_licences(cell, holder, licences), licences) for holder in cell.held]
    return [asked for asked in found if asked is not None]


def leave_needed(ledger, deeds, person, land, place, day):
    """Whose leave the person needs, by the deeds that have worked on the day."""
    needed = []
    for right in rights_in_force(ledger, land, place, day):
        covering = covering_deeds(ledger, deeds, right, land, place)
        needed.extend(asked_of_right(person, right, covering, day))
    return sorted(set(needed))
