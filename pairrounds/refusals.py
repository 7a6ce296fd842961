"""The numbers by which a call is refused."""

OUT_OF_RANGE = -1
NOT_THERE = -2
SAME_PAIR = -3
ODD_NUMBER = -4
BAD_FIRST_ROUND = -5
