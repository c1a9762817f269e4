"""Exports that are let and their corners, exports that are possible, and of these the net exports.

Exports are handed on as (x1, x2, x3, bottom): each zone's export times bottom, which is
above 0. Zone 3's export is 0 less the other two, so balanced exports are a plane, and a
border (a, b, c) in it is where a times x1 plus b times x2 is c.
"""

from zonelines.ratio import common_bottom

# No zone's export is above 100000000 or below -100000000.
BOUNDS = (
    (1, 0, 100000000),
    (-1, 0, 100000000),
    (0, 1, 100000000),
    (0, -1, 100000000),
    (1, 1, 100000000),
    (-1, -1, 100000000),
)


def line_borders(lines):
    """The borders of the lines; exports keep to a line as long as they're at most at c."""
    borders = []
    for line in lines:
        first, second, third = line.factors
        # Balanced exports don't load a line with equal factors at all, so it has no border.
        if first != third or second != third:
            borders.append((first - third, second - third, 1000 * line.room))
    return borders


def let_borders(lines):
    """All borders that balanced exports must keep to for being let."""
    return line_borders(lines) + list(BOUNDS)


def step_borders(ladders):
    """Where a zone's ladder goes from one order to the next, or ends."""
    borders = [(1, 0, step) for step in ladders[0].steps()]
    borders.extend([(0, 1, step) for step in ladders[1].steps()])
    borders.extend([(1, 1, -step) for step in ladders[2].steps()])
    return borders


def crossing(border, other):
    """The exports where two borders cross, or None if they run alongside."""
    bottom = border[0] * other[1] - other[0] * border[1]
    if bottom == 0:
        return None
    first = border[2] * other[1] - other[2] * border[1]
    second = border[0] * other[2] - other[0] * border[2]
    if bottom < 0:
        return (-first, -second, first + second, -bottom)
    return (first, second, -first - second, bottom)


def crossings(borders):
    """All exports where two of the borders cross; those where more do come more than once."""
    found = []
    for k, border in enumerate(borders):
        for other in borders[:k]:
            exports = crossing(border, other)
            if exports is not None:
                found.append(exports)
    return found


def is_balanced(exports):
    return exports[0] + exports[1] + exports[2] == 0


def keeps_to(exports, borders):
    """Whether balanced exports go beyond none of the borders."""
    first, second, third, bottom = exports
    for a, b, c in borders:
        if a * first + b * second > c * bottom:
            return False
    return True


def within_reach(exports, ladders):
    """Whether each zone's export is possible for its orders."""
    for k, ladder in enumerate(ladders):
        if not ladder.reaches(exports[k], exports[3]):
            return False
    return True


def worth_of(exports, ladders):
    """What the exports are worth, times their bottom."""
    return sum([ladder.worth(exports[k], exports[3]) for k, ladder in enumerate(ladders)])


def is_ahead(worth, exports, best_worth, best):
    """Whether exports go ahead of the best: by worth, then by zone 1's export, then by zone 2's."""
    ranks = (worth, exports[0], exports[1])
    best_ranks = (best_worth, best[0], best[1])
    for rank, best_rank in zip(ranks, best_ranks):
        difference = rank * best[3] - best_rank * exports[3]
        if difference != 0:
            return difference > 0
    return False


def net_exports(lines, ladders):
    """The net exports.

    Between borders the worth is linear and the possible exports are bounded, so the first of
    the best ones lies where two borders cross.
    """
    # Orders never reach the bounds that aren't lines' own, so those are left out here.
    limits = line_borders(lines)
    # Nothing exported is always possible, so there is something to begin with.
    best = (0, 0, 0, 1)
    best_worth = worth_of(best, ladders)
    for exports in crossings(limits + step_borders(ladders)):
        if within_reach(exports, ladders) and keeps_to(exports, limits):
            worth = worth_of(exports, ladders)
            if is_ahead(worth, exports, best_worth, best):
                best = exports
                best_worth = worth
    return best


def corners(lines):
    """The let exports that aren't in the middle between two other let ones, in order, over one bottom.

    What is let is bounded by borders, so these are just its places where two borders cross.
    """
    borders = let_borders(lines)
    found = [exports for exports in crossings(borders) if keeps_to(exports, borders)]
    common = common_bottom([exports[3] for exports in found])
    tops = []
    for first, second, third, bottom in found:
        scale = common // bottom
        tops.append((first * scale, second * scale, third * scale, common))
    return sorted(set(tops))
