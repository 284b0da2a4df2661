"""The program's one function: the answers of a list of calls on a new session."""

from twosenders.calls import answer_call, end_of_call
from twosenders.session import Session


def answers(calls):
    session = Session(6, 2)
    given = []
    at = 0
    while at < len(calls):
        end = end_of_call(calls, at)
        numbers = answer_call(session, calls[at:end])
        given.append(len(numbers))
        given.extend(numbers)
        at = end
    return given
