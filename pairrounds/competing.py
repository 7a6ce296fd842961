"""Competing: how much two pairs are held against one another by the boards that both play."""

HIGHEST_SET = 20


def by_set(board_sets):
    """How often each set is among these, at its own number as index."""
    often = [0] * (HIGHEST_SET + 1)
    for board_set in board_sets:
        often[board_set] = often[board_set] + 1
    return often


def products(one, other):
    return sum([x * y for x, y in zip(one, other)])


def between_counts(seatings, p, q):
    """How many (x, y) of two different pairs are alike, how many unlike, and how often the two meet."""
    p_north_south = by_set([seating.board_set for seating in seatings if seating.north_south == p])
    p_east_west = by_set([seating.board_set for seating in seatings if seating.east_west == p])
    q_north_south = by_set([seating.board_set for seating in seatings if seating.north_south == q])
    q_east_west = by_set([seating.board_set for seating in seatings if seating.east_west == q])
    meetings = len([seating for seating in seatings if seating.has_pair(p) and seating.has_pair(q)])
    alike = products(p_north_south, q_north_south) + products(p_east_west, q_east_west)
    # The products count a seating in which the two meet as an x with itself as y, but x and y are to differ.
    unlike = products(p_north_south, q_east_west) + products(p_east_west, q_north_south) - meetings
    return [alike, unlike, meetings]


def leanings_of(seatings):
    """For each pair, by set: how often it plays the set north-south, less how often east-west."""
    leanings = {}
    for seating in seatings:
        for pair, step in ((seating.north_south, 1), (seating.east_west, -1)):
            leaning = leanings.setdefault(pair, [0] * (HIGHEST_SET + 1))
            leaning[seating.board_set] = leaning[seating.board_set] + step
    return leanings


def losses_of(seatings):
    """For each two that meet, the smaller first: what is to be taken from the products of their leanings.

    The products hold each meeting as one unlike (x, y), which it is not: that comes back. Then each other seating
    with its set is taken off. So a meeting costs the seatings with its set less 2.
    """
    often = by_set([seating.board_set for seating in seatings])
    losses = {}
    for seating in seatings:
        two = seating.two()
        losses[two] = losses.get(two, 0) + often[seating.board_set] - 2
    return losses


def competing_of_all(seatings):
    """How much each two of the pairs that are in some seating compete."""
    leanings = leanings_of(seatings)
    losses = losses_of(seatings)
    pairs = sorted(leanings)
    found = []
    for k, p in enumerate(pairs):
        # There may be thousands of twos, and only the sets at which p leans can count for them.
        leaning = [(board_set, much) for board_set, much in enumerate(leanings[p]) if much != 0]
        for q in pairs[k + 1:]:
            other = leanings[q]
            # Alike less unlike is the same as the product of the two leanings, set by set.
            product = sum([much * other[board_set] for board_set, much in leaning])
            found.append(product - losses.get((p, q), 0))
    return found
