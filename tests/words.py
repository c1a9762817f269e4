"""The document's words in fractions, written anew to hold answers against."""

from fractions import Fraction
from functools import cached_property
from itertools import combinations
from math import lcm

from helper import ALONE, CLEAR, CORNERS, FAR, LOADS, MONEY, PLAIN, PRICES, SHARES, as_fractions, flat


class Words:
    """A net that is only made of line and order calls, and what the document says of it."""

    def __init__(self, calls):
        self.lines = [call[1:] for call in calls if call[0] == 1]
        entered = [call[1:] for call in calls if call[0] == 3]
        self.orders = [(k, zone, side == 1, price, amount)
                       for k, (zone, side, price, amount) in enumerate(entered)]

    @cached_property
    def exports(self):
        """The net exports: worth is linear between the places where a ladder goes from order to order."""
        spans = [self.span(zone) for zone in (1, 2, 3)]
        found = vertices(self.let_sides() + box_sides(spans), self.step_borders())
        return max(found, key=lambda exports: (self.worth(exports),) + exports[:2])

    @cached_property
    def prices(self):
        return self.nearest_prices(self.exports)

    def step_borders(self):
        borders = []
        for zone, (a, b, sign) in ((1, (1, 0, 1)), (2, (0, 1, 1)), (3, (1, 1, -1))):
            export = self.span(zone)[0]
            for order in self.ladder(zone):
                export += order[4]
                borders.append((a, b, sign * export))
        return borders

    def clear(self):
        return flat(*self.exports, self.worth(self.exports))

    def loads(self):
        told = [0]
        for number, told_line in enumerate(self.lines):
            told += flat(self.load(number, self.exports))[1:] + [told_line[3]]
        return told

    def money(self):
        paid = [share * self.prices[order[1] - 1] for order, share in self.shared() if order[2]]
        got = [share * self.prices[order[1] - 1] for order, share in self.shared() if not order[2]]
        return flat(sum(paid), sum(got), -sum(p * x for p, x in zip(self.prices, self.exports)))

    def shared(self):
        return list(zip(self.orders, self.shares(self.exports)))

    def told_corners(self):
        return flat(*[export for corner in self.corners() for export in corner[:2]])

    def check(self, point):
        if sum(point) != 0:
            return [0, 1]
        if not self.is_let(point):
            return [0, 2]
        if not self.is_possible(point):
            return [0, 3]
        worth = self.worth(point)
        return [0] + flat(worth, self.worth(self.exports) - worth)

    def without(self, number):
        freed = Words([])
        freed.lines = self.lines[:number - 1] + self.lines[number:]
        freed.orders = self.orders
        return flat(freed.worth(freed.exports) - self.worth(self.exports))

    def price_range(self, zone):
        used = self.used(self.exports)
        own = [order for order in self.orders if order[1] == zone]
        some = [order[3] for order in own if used[order[0]] > 0]
        rest = [order[3] for order in own if used[order[0]] < order[4]]
        return [0] + ([1, max(some)] if some else [0, 0]) + ([1, min(rest)] if rest else [0, 0])

    def plain(self):
        for p, x in zip(self.prices, self.exports):
            for q, y in zip(self.prices, self.exports):
                if x > 0 and y < 0 and p > q:
                    return [0, 0]
        return [0, 1]

    def alone(self):
        shares = self.shares((Fraction(0),) * 3)
        told = []
        for zone in (1, 2, 3):
            own = [(order, share) for order, share in zip(self.orders, shares) if order[1] == zone]
            told.append(sum(order[3] * share if order[2] else -order[3] * share for order, share in own))
        more = self.worth(self.exports) - sum(told)
        return [0] + [int(worth) for worth in told] + flat(more)[1:]

    def answer(self, call):
        """What the document says that this call answers, one of 5 to 16; its numbers are in range."""
        if call[0] in (11, 12):
            point = tuple(as_fractions(call[2:]))
            return self.check(point) if call[0] == 11 else [0, int(self.supports(point, self.exports))]
        if call[0] in (13, 14):
            return (self.without if call[0] == 13 else self.price_range)(call[1])
        return {CLEAR: self.clear, PRICES: lambda: flat(*self.prices),
                SHARES: lambda: flat(*self.shares(self.exports)), LOADS: self.loads, MONEY: self.money,
                CORNERS: self.told_corners, PLAIN: self.plain, ALONE: self.alone}[call]()

    def ladder(self, zone):
        return sorted((order for order in self.orders if order[1] == zone), key=lambda order: (order[3], order[0]))

    def span(self, zone):
        bought = sum(order[4] for order in self.orders if order[1] == zone and order[2])
        sold = sum(order[4] for order in self.orders if order[1] == zone and not order[2])
        return -bought, sold

    def used(self, exports):
        """How much is used of each order, by its place of entry."""
        found = {}
        for zone in (1, 2, 3):
            left = exports[zone - 1] - self.span(zone)[0]
            for place, _, _, _, amount in self.ladder(zone):
                found[place] = min(left, amount)
                left -= found[place]
        return found

    def shares(self, exports):
        used = self.used(exports)
        return [amount - used[place] if buys else used[place] for place, _, buys, _, amount in self.orders]

    def worth(self, exports):
        total = Fraction(0)
        for order, share in zip(self.orders, self.shares(exports)):
            total += order[3] * share if order[2] else -order[3] * share
        return total

    def load(self, number, exports):
        return sum(factor * export for factor, export in zip(self.lines[number][:3], exports)) / Fraction(1000)

    def is_let(self, exports):
        return (sum(exports) == 0 and all(abs(export) <= FAR for export in exports)
                and all(self.load(k, exports) <= self.lines[k][3] for k in range(len(self.lines))))

    def is_possible(self, exports):
        return self.is_let(exports) and all(
            self.span(zone)[0] <= exports[zone - 1] <= self.span(zone)[1] for zone in (1, 2, 3))

    def let_sides(self):
        """(a, b, c) for a times zone 1's export plus b times zone 2's at most c, for all that makes exports let."""
        sides = [(f1 - f3, f2 - f3, 1000 * room) for f1, f2, f3, room in self.lines]
        return sides + box_sides([(-FAR, FAR)] * 3)

    def corners(self):
        return vertices(self.let_sides())

    def possible_corners(self):
        return vertices(self.let_sides() + box_sides([self.span(zone) for zone in (1, 2, 3)]))

    def price_rows(self, exports):
        """(a1, a2, a3, b) for a1 times zone 1's price plus and so on at least b: the document's two conditions."""
        rows = []
        used = self.used(exports)
        for place, zone, _, price, amount in self.orders:
            unit = [int(zone == k) for k in (1, 2, 3)]
            if used[place] > 0:
                rows.append(tuple(unit) + (price,))
            if used[place] < amount:
                rows.append(tuple(-factor for factor in unit) + (-price,))
        for corner in self.corners():
            rows.append(tuple(v - x for v, x in zip(corner, exports)) + (0,))
        return sorted(set(whole_row(row) for row in rows))

    def supports(self, prices, exports):
        return keeps(prices, self.price_rows(exports))

    def best_exports(self, prices):
        """The net exports, found from any prices that support them.

        The exports of the greatest worth are just those that these prices support: each zone is
        within what its orders leave open at its price, and no let exports cost less.
        """
        spans = []
        for zone in (1, 2, 3):
            least = self.span(zone)[0]
            price = prices[zone - 1]
            spans.append((least + sum(order[4] for order in self.ladder(zone) if order[3] < price),
                          least + sum(order[4] for order in self.ladder(zone) if order[3] <= price)))
        cheapest = min(sum(p * v for p, v in zip(prices, corner)) for corner in self.corners())
        cost = (prices[0] - prices[2], prices[1] - prices[2], cheapest)
        return max(vertices(self.let_sides() + box_sides(spans) + [cost]))

    def nearest_prices(self, exports):
        """The prices: the first by distance from 0 of all places where three planes meet.

        With the planes on which a price is 0 among them, what supports falls into parts within
        which each distance is linear and which have corners.
        """
        rows = self.price_rows(exports)
        planes = sorted(set(rows) | {(1, 0, 0, 0), (0, 1, 0, 0), (0, 0, 1, 0)})
        found = []
        for three in combinations(planes, 3):
            tops, bottom = meeting(three)
            if bottom > 0 and keeps(tops, rows, bottom):
                found.append(tuple(Fraction(top, bottom) for top in tops))
        return min(found, key=lambda prices: [abs(price) for price in prices])


def box_sides(spans):
    (low1, high1), (low2, high2), (low3, high3) = spans
    return [(1, 0, high1), (-1, 0, -low1), (0, 1, high2), (0, -1, -low2), (-1, -1, high3), (1, 1, -low3)]


def vertices(sides, borders=()):
    """Where two of the sides or borders cross within all sides, as points: without borders, the corners."""
    found = set()
    for (a, b, c), (d, e, f) in combinations(list(sides) + list(borders), 2):
        bottom = a * e - b * d
        if bottom != 0:
            sign = 1 if bottom > 0 else -1
            first, second, bottom = sign * (c * e - b * f), sign * (a * f - c * d), sign * bottom
            if all(a * first + b * second <= c * bottom for a, b, c in sides):
                first, second = Fraction(first) / bottom, Fraction(second) / bottom
                found.add((first, second, -first - second))
    return sorted(found)


def whole_row(row):
    """The same row without fractions."""
    scale = lcm(*[Fraction(number).denominator for number in row])
    return tuple(int(number * scale) for number in row)


def keeps(prices, rows, bottom=1):
    """Whether these prices, which are over bottom, keep to all rows."""
    return all(a * prices[0] + b * prices[1] + c * prices[2] >= d * bottom for a, b, c, d in rows)


def determinant(first, second, third):
    return (first[0] * (second[1] * third[2] - second[2] * third[1])
            - first[1] * (second[0] * third[2] - second[2] * third[0])
            + first[2] * (second[0] * third[1] - second[1] * third[0]))


def meeting(three):
    """The prices at which three rows hold with equality, over a bottom above 0; over 0 if that isn't one point."""
    bottom = determinant(*three)
    tops = []
    for place in range(3):
        changed = [row[:place] + (row[3],) + row[place + 1:3] for row in three]
        tops.append(determinant(*changed) if bottom > 0 else -determinant(*changed))
    return tops, abs(bottom)
