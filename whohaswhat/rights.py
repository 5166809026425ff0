"""Rights and deeds: the calls, and what they answer."""

from whohaswhat.calls import split_calls
from whohaswhat.keeping import keep
from whohaswhat.ledger import Ledger
from whohaswhat.refusals import shared_refusal
from whohaswhat.telling import FIRST_TELLING, tell


def answer_call(ledger, call):
    refusal = shared_refusal(ledger, call)
    if refusal < 0:
        return [refusal]
    if call.number < FIRST_TELLING:
        return keep(ledger, call)
    return tell(ledger, call)


def answers(calls):
    ledger = Ledger()
    told = []
    for call in split_calls(calls):
        answer = answer_call(ledger, call)
        told.append(len(answer))
        told.extend(answer)
    return told
