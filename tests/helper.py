"""Calls as tests write them, and the document's words in fractions, written anew to hold answers against."""

from fractions import Fraction
from itertools import combinations
from math import lcm

from zonelines.house import answers

OPEN = (0,)
CLEAR = (5,)
PRICES = (6,)
SHARES = (7,)
LOADS = (8,)
FAR = 100000000


def line(first, second, third, room):
    return (1, first, second, third, room)


def rooms(number, room):
    return (2, number, room)


def sell(zone, price, amount):
    return (3, zone, 0, price, amount)


def buy(zone, price, amount):
    return (3, zone, 1, price, amount)


def cancel(number):
    return (4, number)


def ask(*calls):
    """The answers to these calls, one list each."""
    told = answers([number for call in calls for number in call])
    found = []
    at = 0
    while at < len(told):
        found.append(told[at + 1:at + 1 + told[at]])
        at += 1 + told[at]
    assert at == len(told) and len(found) == len(calls)
    return found


def last(*calls):
    """What the last call answers on an open net."""
    return ask(OPEN, *calls)[-1]


def flat(*values):
    """0, then these fractions, two numbers each: an accepted answer."""
    told = [0]
    for value in values:
        told += [Fraction(value).numerator, Fraction(value).denominator]
    return told


def as_fractions(numbers):
    return [Fraction(top, bottom) for top, bottom in zip(numbers[::2], numbers[1::2])]


class Words:
    """A net that is only made of line and order calls, and what the document says of it."""

    def __init__(self, calls):
        self.lines = [call[1:] for call in calls if call[0] == 1]
        entered = [call[1:] for call in calls if call[0] == 3]
        self.orders = [(k, zone, side == 1, price, amount)
                       for k, (zone, side, price, amount) in enumerate(entered)]

    def ladder(self, zone):
        return sorted((order for order in self.orders if order[1] == zone), key=lambda order: (order[3], order[0]))

    def span(self, zone):
        bought = sum(order[4] for order in self.orders if order[1] == zone and order[2])
        sold = sum(order[4] for order in self.orders if order[1] == zone and not order[2])
        return -bought, sold

    def used(self, exports):
        """How much is used of each order, by its place of entry."""
        found = {}
        for zone in (1, 2, 3):
            left = exports[zone - 1] - self.span(zone)[0]
            for place, _, _, _, amount in self.ladder(zone):
                found[place] = min(left, amount)
                left -= found[place]
        return found

    def shares(self, exports):
        used = self.used(exports)
        return [amount - used[place] if buys else used[place] for place, _, buys, _, amount in self.orders]

    def worth(self, exports):
        total = Fraction(0)
        for order, share in zip(self.orders, self.shares(exports)):
            total += order[3] * share if order[2] else -order[3] * share
        return total

    def load(self, number, exports):
        return sum(factor * export for factor, export in zip(self.lines[number][:3], exports)) / Fraction(1000)

    def is_let(self, exports):
        return (sum(exports) == 0 and all(abs(export) <= FAR for export in exports)
                and all(self.load(k, exports) <= self.lines[k][3] for k in range(len(self.lines))))

    def is_possible(self, exports):
        return self.is_let(exports) and all(
            self.span(zone)[0] <= exports[zone - 1] <= self.span(zone)[1] for zone in (1, 2, 3))

    def let_sides(self):
        """(a, b, c) for a times zone 1's export plus b times zone 2's at most c, for all that makes exports let."""
        sides = [(f1 - f3, f2 - f3, 1000 * room) for f1, f2, f3, room in self.lines]
        return sides + box_sides([(-FAR, FAR)] * 3)

    def corners(self):
        return vertices(self.let_sides())

    def possible_corners(self):
        return vertices(self.let_sides() + box_sides([self.span(zone) for zone in (1, 2, 3)]))

    def price_rows(self, exports):
        """(a1, a2, a3, b) for a1 times zone 1's price plus and so on at least b: the document's two conditions."""
        rows = []
        used = self.used(exports)
        for place, zone, _, price, amount in self.orders:
            unit = [int(zone == k) for k in (1, 2, 3)]
            if used[place] > 0:
                rows.append(tuple(unit) + (price,))
            if used[place] < amount:
                rows.append(tuple(-factor for factor in unit) + (-price,))
        for corner in self.corners():
            rows.append(tuple(v - x for v, x in zip(corner, exports)) + (0,))
        return sorted(set(whole_row(row) for row in rows))

    def supports(self, prices, exports):
        return keeps(prices, self.price_rows(exports))

    def best_exports(self, prices):
        """The net exports, found from any prices that support them.

        The exports of the greatest worth are just those that these prices support: each zone is
        within what its orders leave open at its price, and no let exports cost less.
        """
        spans = []
        for zone in (1, 2, 3):
            least = self.span(zone)[0]
            price = prices[zone - 1]
            spans.append((least + sum(order[4] for order in self.ladder(zone) if order[3] < price),
                          least + sum(order[4] for order in self.ladder(zone) if order[3] <= price)))
        cheapest = min(sum(p * v for p, v in zip(prices, corner)) for corner in self.corners())
        cost = (prices[0] - prices[2], prices[1] - prices[2], cheapest)
        return max(vertices(self.let_sides() + box_sides(spans) + [cost]))

    def nearest_prices(self, exports):
        """The prices: the first by distance from 0 of all places where three planes meet.

        With the planes on which a price is 0 among them, what supports falls into parts within
        which each distance is linear and which have corners.
        """
        rows = self.price_rows(exports)
        planes = sorted(set(rows) | {(1, 0, 0, 0), (0, 1, 0, 0), (0, 0, 1, 0)})
        found = []
        for three in combinations(planes, 3):
            prices = meeting(three)
            if prices is not None and keeps(prices, rows):
                found.append(prices)
        return min(found, key=lambda prices: [abs(price) for price in prices])


def box_sides(spans):
    (low1, high1), (low2, high2), (low3, high3) = spans
    return [(1, 0, high1), (-1, 0, -low1), (0, 1, high2), (0, -1, -low2), (-1, -1, high3), (1, 1, -low3)]


def vertices(sides):
    """The corners of all balanced exports on these sides, as points."""
    found = set()
    for (a, b, c), (d, e, f) in combinations(sides, 2):
        bottom = a * e - b * d
        if bottom != 0:
            first = Fraction(c * e - b * f) / bottom
            second = Fraction(a * f - c * d) / bottom
            if all(a * first + b * second <= c for a, b, c in sides):
                found.add((first, second, -first - second))
    return sorted(found)


def whole_row(row):
    """The same row without fractions."""
    scale = lcm(*[Fraction(number).denominator for number in row])
    return tuple(int(number * scale) for number in row)


def keeps(prices, rows):
    return all(a * prices[0] + b * prices[1] + c * prices[2] >= d for a, b, c, d in rows)


def determinant(first, second, third):
    return (first[0] * (second[1] * third[2] - second[2] * third[1])
            - first[1] * (second[0] * third[2] - second[2] * third[0])
            + first[2] * (second[0] * third[1] - second[1] * third[0]))


def meeting(three):
    """The prices at which three rows hold with equality, or None if that isn't one point."""
    bottom = determinant(*three)
    if bottom == 0:
        return None
    found = []
    for place in range(3):
        changed = [row[:place] + (row[3],) + row[place + 1:3] for row in three]
        found.append(Fraction(determinant(*changed), bottom))
    return tuple(found)
