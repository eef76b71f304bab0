"""The numbers by which calls are refused."""

NO_DECK = -1
NO_ROW = -2
NOT_COME_TO = -5
TEXT_TOO_LONG = -7
WRONG_LIST = -9

# The place of the fault is taken off this one.
FAULT = -1000
