"""The numbers that are needed by name, beside ZERO."""

LESS = (-1, 0, 1, 1)
ONE = (1, 0, 1, 1)
TWO = (2, 0, 1, 1)
FOUR = (4, 0, 1, 1)
