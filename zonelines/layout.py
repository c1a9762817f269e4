"""How calls lie in the list that is handed in, and which numbers they may have."""

# A point's row is told with how many numbers it has ahead of it: a row of any other count is
# refused like a number out of its range.
RANGES = {
    0: (),
    1: ((-1000, 1000), (-1000, 1000), (-1000, 1000), (0, 1000000)),
    2: ((1, 4), (0, 1000000)),
    3: ((1, 3), (0, 1), (-1000000, 1000000), (1, 1000000)),
    4: ((-1000000000000000000, 1000000000000000000),),
    5: (),
    6: (),
    7: (),
    8: (),
    9: (),
    10: (),
    11: ((6, 6),
         (-1000000000000, 1000000000000), (1, 1000000000),
         (-1000000000000, 1000000000000), (1, 1000000000),
         (-1000000000000, 1000000000000), (1, 1000000000)),
    12: ((6, 6),
         (-1000000000000, 1000000000000), (1, 1000000000),
         (-1000000000000, 1000000000000), (1, 1000000000),
         (-1000000000000, 1000000000000), (1, 1000000000)),
    13: ((1, 4),),
    14: ((1, 3),),
    15: (),
    16: (),
    17: (),
}
CALLS_WITH_A_POINT = (11, 12)


def call_end(calls, start):
    """The place just behind the call that begins at start."""
    number = calls[start]
    if number in CALLS_WITH_A_POINT:
        return start + 2 + calls[start + 1]
    return start + 1 + len(RANGES.get(number, ()))


def is_well_formed(call):
    """Whether there is such a call and each of its numbers is in the range told."""
    if call[0] not in RANGES:
        return False
    for value, bounds in zip(call[1:], RANGES[call[0]]):
        if value < bounds[0] or value > bounds[1]:
            return False
    return True
