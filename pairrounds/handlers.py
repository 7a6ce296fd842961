"""What each call does to the movement and answers, once its numbers are known to be in range."""

from pairrounds.competing import between_counts, competing_of_all
from pairrounds.faults import KINDS, faults_of
from pairrounds.first_round import differences_of, is_first_round, leads_of, triples_of
from pairrounds.forms import call_fits
from pairrounds.refusals import BAD_FIRST_ROUND, NOT_THERE, ODD_NUMBER, OUT_OF_RANGE, SAME_PAIR
from pairrounds.rules import circle_seatings, cycle_seatings, mitchell_seatings
from pairrounds.seating import Seating, pairs_in, sets_in


def put(movement, numbers, row):
    if numbers[2] == numbers[3]:
        return [SAME_PAIR]
    movement.put(Seating(numbers[0], numbers[1], numbers[2], numbers[3], numbers[4]))
    return [0]


def lift(movement, numbers, row):
    spot = (numbers[0], numbers[1])
    if not movement.has_spot(spot):
        return [NOT_THERE]
    movement.lift(spot)
    return [0]


def clear(movement, numbers, row):
    movement.start_anew([])
    return [0]


def start_with(movement, seatings):
    movement.start_anew(seatings)
    return [0, len(seatings)]


def mitchell(movement, numbers, row):
    n = numbers[0]
    kind = numbers[1]
    if kind != 0 and n % 2 == 1:
        return [ODD_NUMBER]
    return start_with(movement, mitchell_seatings(n, kind))


def cyclic(movement, numbers, row):
    m = numbers[0]
    triples = triples_of(row)
    if not is_first_round(m, triples):
        return [BAD_FIRST_ROUND]
    return start_with(movement, cycle_seatings(m, triples))


def robin(movement, numbers, row):
    n = numbers[0]
    if n % 2 == 1:
        return [ODD_NUMBER]
    return start_with(movement, circle_seatings(n))


def switch(movement, numbers, row):
    of_round = movement.of_round(numbers[0])
    if len(of_round) == 0:
        return [NOT_THERE]
    for seating in of_round:
        movement.put(seating.with_pairs(seating.east_west, seating.north_south))
    return [0]


def exchanged(pair, p, q):
    if pair == p:
        return q
    if pair == q:
        return p
    return pair


def renumbered(seating, p, q):
    return seating.with_pairs(exchanged(seating.north_south, p, q), exchanged(seating.east_west, p, q))


def renumber(movement, numbers, row):
    p = numbers[0]
    q = numbers[1]
    movement.start_anew([renumbered(seating, p, q) for seating in movement.seatings()])
    return [0]


def check(movement, numbers, row):
    seatings = movement.seatings()
    return [0] + [len(faults_of(seatings, kind)) for kind in KINDS]


def first(movement, numbers, row):
    found = faults_of(movement.seatings(), numbers[0])
    if len(found) == 0:
        return [0]
    return [0, found[0][0], found[0][1]]


def at(movement, numbers, row):
    pair = numbers[0]
    for seating in movement.of_round(numbers[1]):
        if seating.has_pair(pair):
            return [0, seating.table, seating.direction_of(pair), seating.other_than(pair), seating.board_set]
    return [0]


def between(movement, numbers, row):
    p = numbers[0]
    q = numbers[1]
    if p == q:
        return [SAME_PAIR]
    return [0] + between_counts(movement.seatings(), p, q)


def plays(movement, numbers, row):
    return [0, sets_in(movement.of_pair(numbers[0])).count(numbers[1])]


def balance(movement, numbers, row):
    amounts = competing_of_all(movement.seatings())
    return [0, sum(amounts), sum([much * much for much in amounts]), len(amounts)]


def size(movement, numbers, row):
    seatings = movement.seatings()
    return [
        0,
        len(set(pairs_in(seatings))),
        len(set([seating.round_number for seating in seatings])),
        len(set([seating.table for seating in seatings])),
        len(set(sets_in(seatings))),
    ]


def list_seatings(movement, numbers, row):
    answer = [0]
    for seating in movement.seatings():
        answer.extend(seating.told())
    return answer


def one_if_none_twice(values):
    return 1 if len(set(values)) == len(values) else 0


def starter(movement, numbers, row):
    m = numbers[0]
    triples = triples_of(row)
    if not is_first_round(m, triples):
        return [BAD_FIRST_ROUND]
    return [0, one_if_none_twice(differences_of(m, triples)), one_if_none_twice(leads_of(m, triples))]


def missing(movement, numbers, row):
    seatings = movement.seatings()
    own = movement.of_pair(numbers[0])
    # The pair is in each seating of its own, so it is not counted among the others that it never meets.
    return [0, len(set(pairs_in(seatings)) - set(pairs_in(own))), len(set(sets_in(seatings)) - set(sets_in(own)))]


# By the call's place.
HANDLERS = (
    put, lift, clear, mitchell, cyclic, robin, switch, renumber, check,
    first, at, between, plays, balance, size, list_seatings, starter, missing,
)


def answer_call(movement, call):
    if not call_fits(call):
        return [OUT_OF_RANGE]
    return HANDLERS[call.place](movement, call.numbers, call.row)
