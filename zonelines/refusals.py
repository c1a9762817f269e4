"""What calls are refused with."""

MALFORMED = -1
NO_NET = -2
NOT_THERE = -3
FULL = -4
