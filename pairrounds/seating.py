"""Seatings, and the movement that holds at most one for each round and table."""


class Seating:
    """Two pairs and a set of boards at one table of one round. It is never changed, only replaced."""

    def __init__(self, round_number, table, north_south, east_west, board_set):
        self.round_number = round_number
        self.table = table
        self.north_south = north_south
        self.east_west = east_west
        self.board_set = board_set

    def spot(self):
        return (self.round_number, self.table)

    def with_pairs(self, north_south, east_west):
        return Seating(self.round_number, self.table, north_south, east_west, self.board_set)


class Movement:
    """The seatings of one line of calls, kept by round and table."""

    def __init__(self):
        self.by_spot = {}

    def seatings(self):
        """All seatings by rounds, in a round by tables, in a list of their own."""
        return [self.by_spot[spot] for spot in sorted(self.by_spot)]

    def has_spot(self, spot):
        return spot in self.by_spot

    def put(self, seating):
        self.by_spot[seating.spot()] = seating

    def lift(self, spot):
        self.by_spot.pop(spot)

    def start_anew(self, seatings):
        self.by_spot = {}
        for seating in seatings:
            self.put(seating)
