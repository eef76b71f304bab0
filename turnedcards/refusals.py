"""The numbers by which calls are refused."""

NO_DECK = -1
NO_ROW = -2
NO_GRID = -3
NO_CARD = -4
NOT_COME_TO = -5
MORE_THAN_ONE_PILE = -5
TOO_MANY = -6
TEXT_TOO_LONG = -7
NO_SUCH_NUMBER = -7
NOTHING_TOLD = -8
WRONG_LIST = -9

# The place of the fault is taken off this one.
FAULT = -1000
