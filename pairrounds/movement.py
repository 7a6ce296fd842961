"""The way in: a list of calls on one new movement, and their answers."""

from pairrounds.forms import read_call
from pairrounds.handlers import answer_call
from pairrounds.seating import Movement


def answers(calls):
    """For each call how many numbers are answered, then these."""
    movement = Movement()
    given = []
    start = 0
    while start < len(calls):
        call = read_call(calls, start)
        answer = answer_call(movement, call)
        given.append(len(answer))
        given.extend(answer)
        start = start + call.length()
    return given
