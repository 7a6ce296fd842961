"""The four kinds of faults of a movement."""

PAIR_SITS_AGAIN = 1
SET_PLAYED_AGAIN = 2
PAIRS_MEET_AGAIN = 3
KINDS = (1, 2, 3, 4)


def told_by(seating, kind):
    """What a seating adds towards the faults of a kind: a fault is a two of numbers that is added twice or more."""
    pairs = (seating.north_south, seating.east_west)
    if kind == PAIR_SITS_AGAIN:
        return [(seating.round_number, pair) for pair in pairs]
    if kind == SET_PLAYED_AGAIN:
        return [(pair, seating.board_set) for pair in pairs]
    if kind == PAIRS_MEET_AGAIN:
        return [seating.two()]
    return [(seating.round_number, seating.board_set)]


def faults_of(seatings, kind):
    """The faults of a kind, in order by their first numbers, then by their second."""
    often = {}
    for seating in seatings:
        for two in told_by(seating, kind):
            often[two] = often.get(two, 0) + 1
    return [two for two in sorted(often) if often[two] >= 2]
