"""A number for each kind of way."""

LETTER = 0
ONE = 1
NOTHING = 2
ROW = 3
CHOICE = 4
AGAIN = 5
MAYBE = 6
AHEAD = 7
UNLESS = 8
CALL = 9
