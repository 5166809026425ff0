"""One cell of a right: who holds parts, what is locked, who is bound, and how deeds work on it."""

from whohaswhat.ledger import LICENCE, PLEDGE, RELEASE, SEIZURE, TRANSFER, covering_deeds

WHOLLY = "wholly"
IN_PART = "in part"
NOT_AT_ALL = "not at all"


class Lock:
    """Parts of the giver that a pledge has locked for the taker."""

    def __init__(self, giver, taker, parts):
        self.giver = giver
        self.taker = taker
        self.parts = parts


class Cell:
    """held: parts by person. locks: by the pledge's number, in the order in which the pledges worked.

    bonds: by person, a dict of licences' numbers. bound: the same as pairs of a licence's number and a person, in the
    order in which they came to be bound.
    """

    def __init__(self, owners):
        self.held = dict(owners)
        self.locks = {}
        self.bonds = {}
        self.bound = []


def free_parts(cell, person):
    locked = sum([lock.parts for lock in cell.locks.values() if lock.giver == person])
    return cell.held.get(person, 0) - locked


def licences_on(cell, person):
    """The numbers of the licences that bind a person, in the order in which they came to."""
    return list(cell.bonds.get(person, {}))


def bind(cell, person, licence):
    binding = cell.bonds.setdefault(person, {})
    if licence not in binding:
        binding[licence] = True
        cell.bound.append((licence, person))


def move_parts(cell, giver, taker, parts):
    going = min(parts, free_parts(cell, giver))
    if going == 0 or giver == taker:
        return
    cell.held[giver] = cell.held[giver] - going
    if cell.held[giver] == 0:
        cell.held.pop(giver)
    cell.held[taker] = cell.held.get(taker, 0) + going
    for licence in licences_on(cell, giver):
        bind(cell, taker, licence)


def lock_parts(cell, pledge):
    locked = min(pledge.parts, free_parts(cell, pledge.giver))
    # A pledge that locks nothing has nothing to be seized.
    if locked > 0:
        cell.locks[pledge.number] = Lock(pledge.giver, pledge.taker, locked)


def seize_parts(cell, pledge):
    lock = cell.locks.pop(pledge, None)
    if lock is not None:
        move_parts(cell, lock.giver, lock.taker, lock.parts)


def work(cell, deed):
    if deed.kind == TRANSFER:
        move_parts(cell, deed.giver, deed.taker, deed.parts)
    if deed.kind == LICENCE and deed.giver in cell.held:
        bind(cell, deed.giver, deed.number)
    if deed.kind == PLEDGE:
        lock_parts(cell, deed)
    if deed.kind == RELEASE:
        cell.locks.pop(deed.about, None)
    if deed.kind == SEIZURE:
        seize_parts(cell, deed.about)


def cell_behind(right, deeds):
    """A cell of the right behind the deeds that have worked on it."""
    cell = Cell(right.owners)
    for deed in deeds:
        work(cell, deed)
    return cell


def cell_at(ledger, deeds, right, land, place):
    """The right's cell of that land and variant, behind those of the deeds that cover it."""
    return cell_behind(right, covering_deeds(ledger, deeds, right, land, place))


def effect_on(cell, deed):
    """How far a transfer, licence or pledge works on the cell that the deeds before it have left."""
    if deed.kind == LICENCE:
        return WHOLLY if deed.giver in cell.held else NOT_AT_ALL
    free = free_parts(cell, deed.giver)
    if free == 0:
        return NOT_AT_ALL
    return WHOLLY if free >= deed.parts else IN_PART
