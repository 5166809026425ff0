"""One cell of a right: who holds parts, what is locked, who is bound, and how deeds work on it."""

from whohaswhat.ledger import LICENCE, PLEDGE, RELEASE, SEIZURE, TRANSFER


class Lock:
    """Parts of the giver that a pledge has locked for the taker."""

    def __init__(self, giver, taker, parts):
        self.giver = giver
        self.taker = taker
        self.parts = parts


class Cell:
    """held: parts by person. locks: by the pledge's number. bonds: by person, a dict of licences' numbers."""

    def __init__(self, owners):
        self.held = dict(owners)
        self.locks = {}
        self.bonds = {}


def free_parts(cell, person):
    locked = sum([lock.parts for lock in cell.locks.values() if lock.giver == person])
    return cell.held.get(person, 0) - locked


def licences_on(cell, person):
    """The numbers of the licences that bind a person, in the order in which they came to."""
    return list(cell.bonds.get(person, {}))


def bind(cell, person, licence):
    binding = cell.bonds.setdefault(person, {})
    binding[licence] = True


def move_parts(cell, giver, taker, parts):
    going = min(parts, free_parts(cell, giver))
    if going == 0 or giver == taker:
        return
    cell.held[giver] = cell.held[giver] - going
    if cell.held[giver] == 0:
        cell.held.pop(giver)
    cell.held[taker] = cell.held.get(taker, 0) + going
    for licence in licences_on(cell, giver):
        bind(cell, taker, licence)


def lock_parts(cell, pledge):
    locked = min(pledge.parts, free_parts(cell, pledge.giver))
    # A pledge that locks nothing has nothing to be seized.
    if locked > 0:
        cell.locks[pledge.number] = Lock(pledge.giver, pledge.taker, locked)


def seize_parts(cell, pledge):
    lock = cell.locks.pop(pledge, None)
    if lock is not None:
        move_parts(cell, lock.giver, lock.taker, lock.parts)


def work(cell, deed):
    if deed.kind == TRANSFER:
        move_parts(cell, deed.giver, deed.taker, deed.parts)
    if deed.kind == LICENCE and deed.giver in cell.held:
        bind(cell, deed.giver, deed.number)
    if deed.kind == PLEDGE:
        lock_parts(cell, deed)
    if deed.kind == RELEASE:
        cell.locks.pop(deed.about, None)
    if deed.kind == SEIZURE:
        seize_parts(cell, deed.about)


def cell_behind(right, deeds):
    """A cell of the right behind the deeds that have worked on it."""
    cell = Cell(right.owners)
    for deed in deeds:
        work(cell, deed)
    return cell
