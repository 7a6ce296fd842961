"""Seatings, and the movement that holds at most one for each round and table."""

NORTH_SOUTH = 1
EAST_WEST = 2


class Seating:
    """Two pairs and a set of boards at one table of one round. It is never changed, only replaced."""

    def __init__(self, round_number, table, north_south, east_west, board_set):
        self.round_number = round_number
        self.table = table
        self.north_south = north_south
        self.east_west = east_west
        self.board_set = board_set

    def spot(self):
        return (self.round_number, self.table)

    def with_pairs(self, north_south, east_west):
        return Seating(self.round_number, self.table, north_south, east_west, self.board_set)

    def two(self):
        """The two pairs that meet, the smaller first, whatever their directions."""
        return (min(self.north_south, self.east_west), max(self.north_south, self.east_west))

    def has_pair(self, pair):
        return pair == self.north_south or pair == self.east_west

    def direction_of(self, pair):
        return NORTH_SOUTH if pair == self.north_south else EAST_WEST

    def other_than(self, pair):
        return self.east_west if pair == self.north_south else self.north_south

    def told(self):
        """The seating's five numbers, in the order in which they are told."""
        return [self.round_number, self.table, self.north_south, self.east_west, self.board_set]


class Movement:
    """The seatings of one line of calls, kept by round and table."""

    def __init__(self):
        self.by_spot = {}

    def seatings(self):
        """All seatings by rounds, in a round by tables, in a list of their own."""
        return [self.by_spot[spot] for spot in sorted(self.by_spot)]

    def of_round(self, round_number):
        return [seating for seating in self.seatings() if seating.round_number == round_number]

    def of_pair(self, pair):
        return [seating for seating in self.seatings() if seating.has_pair(pair)]

    def has_spot(self, spot):
        return spot in self.by_spot

    def put(self, seating):
        self.by_spot[seating.spot()] = seating

    def lift(self, spot):
        self.by_spot.pop(spot)

    def start_anew(self, seatings):
        self.by_spot = {}
        for seating in seatings:
            self.put(seating)


def pairs_in(seatings):
    """The pairs of these seatings, each as often as it sits."""
    return [seating.north_south for seating in seatings] + [seating.east_west for seating in seatings]


def sets_in(seatings):
    """The sets of these seatings, each as often as a table has it."""
    return [seating.board_set for seating in seatings]
