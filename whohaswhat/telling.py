"""The calls that ask; they change nothing."""

from whohaswhat.asking import leave_needed
from whohaswhat.cells import IN_PART, NOT_AT_ALL, WHOLLY, cell_at, effect_on
from whohaswhat.ledger import counted_deeds, covers, deeds_before, deeds_in_order, deeds_on_parts, is_cell
from whohaswhat.ledger import lands_of, places_of, rights_in_force, worked_deeds
from whohaswhat.refusals import NOT_FITTING

FIRST_TELLING = 8


def place_of(ledger, variant):
    return ledger.variants.index(variant)


def asked_cell(ledger, call):
    """The cell that a call asks for by right, land, day, known and variant; None if that's no cell of the right."""
    right = ledger.rights[call.wholes[0]]
    land = call.wholes[1]
    place = place_of(ledger, call.rows[0])
    if not is_cell(right, land, place):
        return None
    return cell_at(ledger, worked_deeds(ledger, call.wholes[2], call.wholes[3]), right, land, place)


def parts_deeds(ledger, day, known):
    """Of the deeds that have worked on the day those on which it hangs who holds what."""
    return deeds_on_parts(worked_deeds(ledger, day, known))


def held_in(ledger, deeds, right, land, place):
    """Who holds what: parts by person."""
    return cell_at(ledger, deeds, right, land, place).held


def tell_holders(ledger, call):
    cell = asked_cell(ledger, call)
    if cell is None:
        return [NOT_FITTING]
    answer = [0]
    for person in sorted(cell.held):
        answer.extend([person, cell.held[person]])
    return answer


def tell_leave(ledger, call):
    day = call.wholes[2]
    deeds = worked_deeds(ledger, day, call.wholes[3])
    place = place_of(ledger, call.rows[0])
    return [0] + leave_needed(ledger, deeds, call.wholes[0], call.wholes[1], place, day)


def tell_free(ledger, call):
    day = call.wholes[2]
    deeds = worked_deeds(ledger, day, call.wholes[3])
    free = 0
    first = []
    for place, variant in enumerate(ledger.variants):
        if leave_needed(ledger, deeds, call.wholes[0], call.wholes[1], place, day) == []:
            free = free + 1
        elif first == []:
            first = variant
    return [free] + first


def tell_parts(ledger, call):
    right = ledger.rights[call.wholes[0]]
    person = call.wholes[1]
    land = call.wholes[2]
    deeds = parts_deeds(ledger, call.wholes[3], call.wholes[4])
    places = places_of(right) if land in lands_of(right) else []
    parts = [held_in(ledger, deeds, right, land, place).get(person, 0) for place in places]
    return [len([many for many in parts if many > 0]), sum(parts)]


def effects_of(ledger, deed, counted):
    """How far the deed worked in each cell of its right that it covers."""
    right = ledger.rights[deed.right]
    before = deeds_on_parts(deeds_before(counted, deed))
    effects = []
    for land in lands_of(right):
        for place in places_of(right):
            if covers(ledger, deed, right, land, place):
                effects.append(effect_on(cell_at(ledger, before, right, land, place), deed))
    return effects


def tell_effect(ledger, call):
    deed = ledger.deeds[call.wholes[0]]
    counted = counted_deeds(ledger, call.wholes[1])
    effects = []
    if deed.number in [other.number for other in counted]:
        effects = effects_of(ledger, deed, counted)
    return [len(effects), effects.count(WHOLLY), effects.count(IN_PART), effects.count(NOT_AT_ALL)]


def tell_force(ledger, call):
    place = place_of(ledger, call.rows[0])
    return [0] + [right.number for right in rights_in_force(ledger, call.wholes[0], place, call.wholes[1])]


def tell_locks(ledger, call):
    cell = asked_cell(ledger, call)
    if cell is None:
        return [NOT_FITTING]
    answer = [0]
    for pledge, lock in cell.locks.items():
        answer.extend([pledge, lock.giver, lock.taker, lock.parts])
    return answer


def tell_bound(ledger, call):
    cell = asked_cell(ledger, call)
    if cell is None:
        return [NOT_FITTING]
    answer = [0]
    for pair in cell.bound:
        answer.extend(list(pair))
    return answer


def tell_deeds(ledger, call):
    return [0] + [deed.number for deed in deeds_in_order(ledger)]


def tell_told(ledger, call):
    deed = ledger.deeds[call.wholes[0]]
    days = [deed.kind, deed.known, deed.recorded]
    grant = [deed.right, deed.giver, deed.taker, deed.parts, deed.sole, deed.begin, deed.to, deed.lands]
    return days + grant + [deed.about] + deed.box


def tell_same(ledger, call):
    right = ledger.rights[call.wholes[0]]
    deeds = parts_deeds(ledger, call.wholes[1], call.wholes[2])
    others = parts_deeds(ledger, call.wholes[3], call.wholes[4])
    for land in lands_of(right):
        for place in places_of(right):
            if held_in(ledger, deeds, right, land, place) != held_in(ledger, others, right, land, place):
                return [0, land] + ledger.variants[place]
    return [1]


def tell_owners(ledger, call):
    land = call.wholes[0]
    day = call.wholes[1]
    place = place_of(ledger, call.rows[0])
    deeds = parts_deeds(ledger, day, call.wholes[2])
    owners = []
    for right in rights_in_force(ledger, land, place, day):
        owners.extend(list(held_in(ledger, deeds, right, land, place)))
    return [0] + sorted(set(owners))


# By the call's number, from FIRST_TELLING.
TELLERS = (
    tell_holders,
    tell_leave,
    tell_free,
    tell_parts,
    tell_effect,
    tell_force,
    tell_locks,
    tell_bound,
    tell_deeds,
    tell_told,
    tell_same,
    tell_owners,
)


def tell(ledger, call):
    teller = TELLERS[call.number - FIRST_TELLING]
    return teller(ledger, call)
