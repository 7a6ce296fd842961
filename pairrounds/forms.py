"""The forms of the calls: how they are read from the one list, and the ranges of their numbers."""

# By the call's place: the lowest and highest value of each of its plain arguments.
RANGES = (
    ((1, 20), (1, 20), (1, 99), (1, 99), (1, 20)),  # put
    ((1, 20), (1, 20)),  # lift
    (),  # clear
    ((1, 20), (0, 2)),  # mitchell
    ((1, 19),),  # cyclic
    ((2, 20),),  # robin
    ((1, 20),),  # switch
    ((1, 99), (1, 99)),  # renumber
    (),  # check
    ((1, 4),),  # first
    ((1, 99), (1, 20)),  # at
    ((1, 99), (1, 99)),  # between
    ((1, 99), (1, 20)),  # plays
    (),  # balance
    (),  # size
    (),  # list
    ((1, 19),),  # starter
    ((1, 99),),  # missing
)
PLACES_WITH_ROW = (4, 16)
LONGEST_ROW = 60
HIGHEST_IN_ROW = 19


class Call:
    """One call, taken apart. A call whose form has no row has an empty one."""

    def __init__(self, place, numbers, row):
        self.place = place
        self.numbers = numbers
        self.row = row

    def length(self):
        """How many numbers of the one list the call takes."""
        row_length = 1 + len(self.row) if self.place in PLACES_WITH_ROW else 0
        return 1 + len(self.numbers) + row_length


def read_call(calls, start):
    """The call that begins at this index of the one list."""
    place = calls[start]
    behind = start + 1 + len(RANGES[place])
    numbers = calls[start + 1:behind]
    if place not in PLACES_WITH_ROW:
        return Call(place, numbers, [])
    return Call(place, numbers, calls[behind + 1:behind + 1 + calls[behind]])


def in_range(number, lowest, highest):
    return number >= lowest and number <= highest


def row_fits(row):
    if len(row) > LONGEST_ROW or len(row) % 3 != 0:
        return False
    return all([in_range(number, 0, HIGHEST_IN_ROW) for number in row])


def call_fits(call):
    """Whether every number of the call is in its range and its row is as long as told."""
    for number, limits in zip(call.numbers, RANGES[call.place]):
        if not in_range(number, limits[0], limits[1]):
            return False
    return row_fits(call.row)
