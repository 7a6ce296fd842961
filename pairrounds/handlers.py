"""What each call does to the movement and answers, once its numbers are known to be in range."""

from pairrounds.faults import KINDS, faults_of
from pairrounds.forms import call_fits
from pairrounds.refusals import BAD_FIRST_ROUND, NOT_THERE, ODD_NUMBER, OUT_OF_RANGE, SAME_PAIR
from pairrounds.rules import circle_seatings, cycle_seatings, is_first_round, mitchell_seatings, triples_of
from pairrounds.seating import Seating


def put(movement, numbers, row):
    if numbers[2] == numbers[3]:
        return [SAME_PAIR]
    movement.put(Seating(numbers[0], numbers[1], numbers[2], numbers[3], numbers[4]))
    return [0]


def lift(movement, numbers, row):
    spot = (numbers[0], numbers[1])
    if not movement.has_spot(spot):
        return [NOT_THERE]
    movement.lift(spot)
    return [0]


def clear(movement, numbers, row):
    movement.start_anew([])
    return [0]


def start_with(movement, seatings):
    movement.start_anew(seatings)
    return [0, len(seatings)]


def mitchell(movement, numbers, row):
    n = numbers[0]
    kind = numbers[1]
    if kind != 0 and n % 2 == 1:
        return [ODD_NUMBER]
    return start_with(movement, mitchell_seatings(n, kind))


def cyclic(movement, numbers, row):
    m = numbers[0]
    triples = triples_of(row)
    if not is_first_round(m, triples):
        return [BAD_FIRST_ROUND]
    return start_with(movement, cycle_seatings(m, triples))


def robin(movement, numbers, row):
    n = numbers[0]
    if n % 2 == 1:
        return [ODD_NUMBER]
    return start_with(movement, circle_seatings(n))


def switch(movement, numbers, row):
    of_round = [seating for seating in movement.seatings() if seating.round_number == numbers[0]]
    if len(of_round) == 0:
        return [NOT_THERE]
    for seating in of_round:
        movement.put(seating.with_pairs(seating.east_west, seating.north_south))
    return [0]


def exchanged(pair, p, q):
    if pair == p:
        return q
    if pair == q:
        return p
    return pair


def renumbered(seating, p, q):
    return seating.with_pairs(exchanged(seating.north_south, p, q), exchanged(seating.east_west, p, q))


def renumber(movement, numbers, row):
    p = numbers[0]
    q = numbers[1]
    movement.start_anew([renumbered(seating, p, q) for seating in movement.seatings()])
    return [0]


def check(movement, numbers, row):
    seatings = movement.seatings()
    return [0] + [len(faults_of(seatings, kind)) for kind in KINDS]


# By the call's place.
HANDLERS = (put, lift, clear, mitchell, cyclic, robin, switch, renumber, check)


def answer_call(movement, call):
    if not call_fits(call):
        return [OUT_OF_RANGE]
    # The calls of the later places are not built yet: they change nothing and answer 0 alone.
    if call.place >= len(HANDLERS):
        return [0]
    return HANDLERS[call.place](movement, call.numbers, call.row)
