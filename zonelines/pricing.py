"""The prices that support the net exports.

What prices must keep to is told by rows [a1, a2, a3, b]: a1 times zone 1's price plus a2
times zone 2's plus a3 times zone 3's is at least b. Rows of zone 1 and 2 alone, or of
zone 1 alone, have fewer numbers ahead of the b.
"""

from zonelines.exports import line_borders


def zone_row(place, factor, bound):
    """The row that speaks of one zone's price alone."""
    row = [0, 0, 0, bound]
    row[place] = factor
    return row


def order_rows(exports, ladders):
    """Each zone's price is between those of what is used of its ladder and of what isn't."""
    rows = []
    for k, ladder in enumerate(ladders):
        least = ladder.least_price(exports[k], exports[3])
        greatest = ladder.greatest_price(exports[k], exports[3])
        if least is not None:
            rows.append(zone_row(k, 1, least))
        if greatest is not None:
            rows.append(zone_row(k, -1, -greatest))
    return rows


def full_borders(exports, lines):
    """The borders of the lines that have no room left at the exports."""
    first, second, third, bottom = exports
    return [(a, b, c) for a, b, c in line_borders(lines) if a * first + b * second == c * bottom]


def is_let_on(way, borders):
    """Whether full lines let zone 1's and zone 2's export change that way."""
    return all([a * way[0] + b * way[1] <= 0 for a, b, c in borders])


def ways_on(borders):
    """Ways to change zone 1's and zone 2's export that, stretched and added, make up all that full lines let.

    The bounds on exports that don't come from lines are far beyond what orders can reach, so
    they leave every way free.
    """
    if len(borders) == 0:
        return [(1, 0), (-1, 0), (0, 1), (0, -1)]
    ways = []
    for a, b, c in borders:
        # Along the border either way, and straight off it: what full lines let lies between
        # two ways along borders, or is one side of a border, or such a way alone, or nothing.
        for way in ((b, -a), (-b, a), (-a, -b)):
            if is_let_on(way, borders):
                ways.append(way)
    return ways


def way_rows(exports, lines):
    """No change that is let makes the sum of price times export less."""
    ways = ways_on(full_borders(exports, lines))
    return [[first, second, -first - second, 0] for first, second in ways]


def price_rows(exports, lines, ladders):
    """All that prices must keep to for supporting the net exports."""
    return order_rows(exports, ladders) + way_rows(exports, lines)


def are_supporting(prices, exports, lines, ladders):
    """Whether the prices support the net exports."""
    first, second, third, bottom = prices
    for a, b, c, bound in price_rows(exports, lines, ladders):
        if a * first + b * second + c * third < bound * bottom:
            return False
    return True


def without_price(rows, place):
    """What rows ask of the prices ahead of the one at place, the last: that some price there fits."""
    kept = [row[:place] + row[place + 1:] for row in rows if row[place] == 0]
    lows = [row for row in rows if row[place] > 0]
    highs = [row for row in rows if row[place] < 0]
    for low in lows:
        for high in highs:
            mixed = [low[place] * h - high[place] * g for g, h in zip(low, high)]
            kept.append(mixed[:place] + mixed[place + 1:])
    return kept


def nearest(rows, tops, bottom):
    """The price nearest to 0 that fits rows behind the known ones, which are tops over bottom.

    It's answered as (top, scale) for top over bottom times scale.
    """
    place = len(tops)
    best = (0, 1)
    for row in rows:
        factor = row[place]
        rest = row[place + 1] * bottom - sum([row[k] * top for k, top in enumerate(tops)])
        # Starting from 0, a row that the best doesn't keep moves it just as far as it must go. Never
        # one row up and another down, since some price keeps all rows.
        if factor != 0 and factor * best[0] < rest * best[1]:
            best = (rest, factor) if factor > 0 else (-rest, -factor)
    return best


def supporting_prices(exports, lines, ladders):
    """The prices, nearest to 0 zone by zone, each times a bottom above 0, then that bottom."""
    for_three = price_rows(exports, lines, ladders)
    for_two = without_price(for_three, 2)
    for_one = without_price(for_two, 1)
    tops = []
    bottom = 1
    for rows in (for_one, for_two, for_three):
        top, scale = nearest(rows, tops, bottom)
        tops = [known * scale for known in tops] + [top]
        bottom = bottom * scale
    return (tops[0], tops[1], tops[2], bottom)
