"""Builds calls by their names and runs them on the program."""

from whohaswhat.rights import answers

NORTH = 1
ALL_LANDS = 15
LAST_DAY = 100000


def row(numbers):
    return [len(numbers), *numbers]


def field(*leaves):
    return [0, *row(leaves)]


def right(r=1, first=0, last=LAST_DAY, lands=ALL_LANDS, boxes=(3,), owners=(1, 120)):
    return [1, r, first, last, lands, *row(boxes), *row(owners)]


def transfer(k, giver, taker, parts, known=0, recorded=0, of=1, lands=ALL_LANDS, box=(3,)):
    return [2, k, known, recorded, of, giver, taker, parts, lands, *row(box)]


def licence(k, giver, taker, sole=0, begin=0, to=LAST_DAY, known=0, recorded=0, of=1, lands=ALL_LANDS, box=(3,)):
    return [3, k, known, recorded, of, giver, taker, sole, begin, to, lands, *row(box)]


def sole(k, giver, taker, **rest):
    return licence(k, giver, taker, sole=1, **rest)


def pledge(k, giver, taker, parts, known=0, recorded=0, of=1, lands=ALL_LANDS, box=(3,)):
    return [4, k, known, recorded, of, giver, taker, parts, lands, *row(box)]


def release(k, deed, known=0, recorded=0):
    return [5, k, known, recorded, deed]


def seize(k, deed, known=0, recorded=0):
    return [6, k, known, recorded, deed]


def annul(k, deed, known=0, recorded=0):
    return [7, k, known, recorded, deed]


def holders(of=1, land=0, day=LAST_DAY, known=LAST_DAY, variant=(0,)):
    return [8, of, land, day, known, *row(variant)]


def leave(person, land=0, day=LAST_DAY, known=LAST_DAY, variant=(0,)):
    return [9, person, land, day, known, *row(variant)]


def free(person, land=0, day=LAST_DAY, known=LAST_DAY):
    return [10, person, land, day, known]


def parts(person, of=1, land=0, day=LAST_DAY, known=LAST_DAY):
    return [11, of, person, land, day, known]


def effect(deed, known=LAST_DAY):
    return [12, deed, known]


def force(land=0, day=LAST_DAY, variant=(0,)):
    return [13, land, day, *row(variant)]


def locks(of=1, land=0, day=LAST_DAY, known=LAST_DAY, variant=(0,)):
    return [14, of, land, day, known, *row(variant)]


def bound(of=1, land=0, day=LAST_DAY, known=LAST_DAY, variant=(0,)):
    return [15, of, land, day, known, *row(variant)]


def all_deeds():
    return [16]


def told(deed):
    return [17, deed]


def same(of=1, day=LAST_DAY, known=LAST_DAY, day2=LAST_DAY, known2=LAST_DAY):
    return [18, of, day, known, day2, known2]


def owners(land=0, day=LAST_DAY, known=LAST_DAY, variant=(0,)):
    return [19, land, day, known, *row(variant)]


def cut_answers(numbers):
    """One list a call, of what the program gave back for several."""
    found = []
    at = 0
    while at < len(numbers):
        end = at + 1 + numbers[at]
        assert numbers[at] >= 1 and end <= len(numbers), numbers
        found.append(numbers[at + 1:end])
        at = end
    return found


def run(*calls):
    """The answer to each of the calls."""
    found = cut_answers(answers([number for call in calls for number in call]))
    assert len(found) == len(calls), (len(found), len(calls))
    return found


def last(*calls):
    """The answer to the last of the calls; those before it must be done, not refused."""
    found = run(*calls)
    assert all(answer[0] >= 0 for answer in found[:-1]), found
    return found[-1]


def asked(person, *deeds, of=None, **question):
    """Whose leave the person needs behind the deeds."""
    answer = last(of or right(), *deeds, leave(person, **question))
    assert answer[0] == 0, answer
    return answer[1:]
