"""How calls lie in the list that is handed in, and which numbers they may have."""

# Every call of the document is laid out here, also one that isn't answered yet:
# the calls behind it are found by its length.
PLAIN_NUMBERS = (0, 4, 2, 4, 1, 0, 0, 0, 0, 0, 0, 0, 0, 1, 1, 0, 0, 0)
CALLS_WITH_A_POINT = (11, 12)

RANGES = {
    0: (),
    1: ((-1000, 1000), (-1000, 1000), (-1000, 1000), (0, 1000000)),
    2: ((1, 4), (0, 1000000)),
    3: ((1, 3), (0, 1), (-1000000, 1000000), (1, 1000000)),
    4: ((-1000000000000000000, 1000000000000000000),),
    5: (),
    6: (),
    7: (),
    8: (),
}


def call_end(calls, start):
    """The place just behind the call that begins at start."""
    number = calls[start]
    if number in CALLS_WITH_A_POINT:
        return start + 2 + calls[start + 1]
    return start + 1 + PLAIN_NUMBERS[number]


def is_well_formed(call):
    """Whether there is such a call and each of its numbers is in the range told."""
    if call[0] not in RANGES:
        return False
    for value, bounds in zip(call[1:], RANGES[call[0]]):
        if value < bounds[0] or value > bounds[1]:
            return False
    return True
