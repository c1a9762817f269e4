"""Many nets, their answers held against the document's words in fractions."""

import random
import unittest
from fractions import Fraction
from math import gcd

from helper import (ALONE, CLEAR, CORNERS, FAR, LOADS, MONEY, OPEN, PLAIN, PRICES, SHARES, as_fractions, ask,
                    can_be_handed_in, check, flat, line, price_range, supports, without)
from nets import random_net
from words import Words

ZERO = (6, 0, 7, 0, 7, 0, 7)


def points_between(corners, source):
    """The corners, and points between and within them."""
    points = list(corners)
    for _ in range(40):
        chosen = [source.choice(corners) for _ in range(3)]
        weights = [source.randint(0, 3) for _ in range(2)] + [1]
        total = Fraction(sum(weights))
        points.append(tuple(sum(weight * corner[k] for weight, corner in zip(weights, chosen)) / total
                            for k in range(3)))
    return points


class Searches(unittest.TestCase):
    def test_exports_prices_shares_and_loads(self):
        for seed in range(600):
            calls = random_net(seed)
            with self.subTest(seed=seed, calls=calls):
                self.check(Words(calls), ask(OPEN, *calls, CLEAR, PRICES, SHARES, LOADS)[-4:])

    def check(self, words, told):
        cleared = as_fractions(told[0][1:])
        exports = tuple(cleared[:3])
        prices = tuple(as_fractions(told[1][1:]))
        self.assertTrue(words.is_possible(exports))
        self.assertEqual(told[0], flat(*exports, words.worth(exports)))
        self.assertEqual(words.exports, exports)
        self.assertTrue(words.supports(prices, exports))
        self.assertEqual(words.best_exports(prices), exports)
        self.assertEqual(told[1], flat(*words.nearest_prices(exports)))
        self.assertEqual(told[2], flat(*words.shares(exports)))
        self.assertEqual(told[3], words.loads())

    def test_no_possible_exports_are_worth_more(self):
        for seed in range(1000, 1150):
            calls = random_net(seed)
            words = Words(calls)
            told = as_fractions(ask(OPEN, *calls, CLEAR)[-1][1:])
            with self.subTest(seed=seed, calls=calls):
                for exports in points_between(words.possible_corners(), random.Random(seed)):
                    self.assertTrue(words.is_possible(exports))
                    rank = (words.worth(exports),) + exports[:2]
                    self.assertLessEqual(rank, (told[3], told[0], told[1]))

    def test_whole_points_of_a_small_net(self):
        for seed in range(2000, 2050):
            calls = random_net(5 * seed)
            words = Words(calls)
            told = as_fractions(ask(OPEN, *calls, CLEAR)[-1][1:])
            spans = [words.span(zone) for zone in (1, 2, 3)]
            with self.subTest(calls=calls):
                for first in range(spans[0][0], spans[0][1] + 1):
                    for second in range(spans[1][0], spans[1][1] + 1):
                        exports = (first, second, -first - second)
                        if words.is_possible(exports):
                            self.assertLessEqual((words.worth(exports), first, second), (told[3], told[0], told[1]))

    def test_lowest_terms(self):
        for seed in range(3000, 3200):
            told = ask(OPEN, *random_net(seed), CLEAR, PRICES, SHARES, MONEY, CORNERS, check(0, 0, 0)[:1] + ZERO, ALONE,
                       LOADS)[-8:]
            told[5] = told[5][1:]
            told[6] = told[6][3:]
            pairs = []
            for answer in told[:7]:
                pairs += list(zip(answer[1::2], answer[2::2]))
            pairs += list(zip(told[7][1::3], told[7][2::3]))
            for top, bottom in pairs:
                self.assertGreater(bottom, 0)
                self.assertEqual(gcd(top, bottom), 1)


class Questions(unittest.TestCase):
    def test_each_report(self):
        asked = [MONEY, CORNERS, PLAIN, ALONE] + [price_range(zone) for zone in (1, 2, 3)]
        seen = []
        for seed in range(4000, 4200):
            calls = random_net(seed)
            words = Words(calls)
            reports = asked + [without(number + 1) for number in range(len(words.lines))]
            for call, told in zip(reports, ask(OPEN, *calls, *reports)[1 + len(calls):]):
                with self.subTest(calls=calls, call=call):
                    self.assertEqual(told, words.answer(call))
            seen.append(words.plain())
        self.assertGreater(seen.count([0, 0]), 10)
        self.assertGreater(seen.count([0, 1]), 10)

    def test_the_rent(self):
        above = 0
        for seed in range(5000, 6000):
            paid, got, rent = as_fractions(ask(OPEN, *random_net(seed), MONEY)[-1][1:])
            self.assertGreaterEqual(rent, 0)
            self.assertEqual(rent, paid - got)
            above += rent > 0
        self.assertGreater(above, 100)

    def test_no_line_less_makes_worth_less(self):
        for seed in range(5000, 5300):
            calls = random_net(seed)
            count = sum(call[0] == 1 for call in calls)
            for told in ask(OPEN, *calls, *[without(number + 1) for number in range(count)])[1 + len(calls):]:
                self.assertGreaterEqual(told[1], 0)

    def test_verdicts_on_points(self):
        verdicts = {0: 0, 1: 0, 2: 0, 3: 0}
        for seed in range(6000, 6060):
            calls, source = random_net(seed), random.Random(seed)
            words = Words(calls)
            points = points_between(words.possible_corners(), source)[:20]
            points += points_between(words.corners(), source)[:20]
            points = [words.exports] + points + [nudged(point, source) for point in points]
            for point in [point for point in points if can_be_handed_in(point)]:
                told = ask(OPEN, *calls, check(*point))[-1]
                with self.subTest(calls=calls, point=point):
                    self.assertEqual(told, words.check(point))
                    self.assertTrue(told[1] != 0 or told[4] >= 0)
                verdicts[told[1]] += 1
        self.assertGreater(min(verdicts.values()), 100)

    def test_prices_that_support(self):
        verdicts = {0: 0, 1: 0}
        for seed in range(7000, 7080):
            calls, source = random_net(seed), random.Random(seed)
            words = Words(calls)
            lets = points_between(words.corners(), source)
            points = [words.prices] + [nudged(words.prices, source) for _ in range(10)] + edges(words, source)
            for prices in [point for point in points if can_be_handed_in(point)]:
                told = ask(OPEN, *calls, supports(*prices))[-1]
                with self.subTest(calls=calls, prices=prices):
                    self.assertEqual(told, [0, int(self.fits(words, prices, lets))])
                verdicts[told[1]] += 1
        self.assertGreater(min(verdicts.values()), 500)

    def fits(self, words, prices, lets):
        """The document's two conditions, the second over all these let exports, the corners among them."""
        used = words.used(words.exports)
        for place, zone, _, price, amount in words.orders:
            if used[place] > 0 and prices[zone - 1] < price:
                return False
            if used[place] < amount and prices[zone - 1] > price:
                return False
        return all(sum(p * (v - x) for p, v, x in zip(prices, let, words.exports)) >= 0 for let in lets)


def nudged(point, source):
    """A point near by: one number is another, or two are and the sum stays."""
    step = source.choice((1, -1)) * source.choice((Fraction(1), Fraction(1, 2), Fraction(1, 1000)))
    first, second = source.sample(range(3), 2)
    moved = list(point)
    moved[first] += step
    if source.randint(0, 3):
        moved[second] -= step
    return tuple(moved)


def edges(words, source):
    """Prices that go from the prices some way on until a condition stops them, and a bit farther."""
    rows = words.price_rows(words.exports)
    found = []
    for _ in range(12):
        way = source.choice([(1, 1, 1), (-1, -1, -1), tuple(source.randint(-2, 2) for _ in range(3))])
        lengths = []
        for a, b, c, bound in rows:
            slope = a * way[0] + b * way[1] + c * way[2]
            if slope < 0:
                level = a * words.prices[0] + b * words.prices[1] + c * words.prices[2]
                lengths.append((bound - level) / Fraction(slope))
        length = min(lengths, default=Fraction(1000))
        for more in (Fraction(0), Fraction(1, 1000), Fraction(-1, 1000)):
            found.append(tuple(p + (length + more) * w for p, w in zip(words.prices, way)))
    return found


def cut(points, side):
    """What is left of a convex ring of points where a times zone 1's export plus b times zone 2's is at most c."""
    a, b, c = side
    left = []
    for k, here in enumerate(points):
        before = points[k - 1]
        over = a * here[0] + b * here[1] - c
        over_before = a * before[0] + b * before[1] - c
        if over * over_before < 0:
            part = Fraction(over_before) / (over_before - over)
            left.append(tuple(p + part * (q - p) for p, q in zip(before, here)))
        if over <= 0:
            left.append(here)
    return left


def in_the_middle(point, one, other):
    """Whether the point is on the straight way between two others."""
    return ((one[0] - point[0]) * (other[1] - point[1]) == (one[1] - point[1]) * (other[0] - point[0])
            and (one[0] - point[0]) * (other[0] - point[0]) + (one[1] - point[1]) * (other[1] - point[1]) < 0)


class CornersCutByCut(unittest.TestCase):
    """The corners, found another way: the bounds' six, cut by one line after another."""

    ring = [(FAR, 0), (0, FAR), (-FAR, FAR), (-FAR, 0), (0, -FAR), (FAR, -FAR)]

    def expected(self, lines):
        points = [(Fraction(first), Fraction(second)) for first, second in self.ring]
        for f1, f2, f3, room in lines:
            points = cut(points, (f1 - f3, f2 - f3, 1000 * room))
        points = sorted(set(points))
        return [point for point in points
                if not any(in_the_middle(point, one, other) for one in points for other in points)]

    def compare(self, calls):
        """How many corners there are."""
        expected = self.expected(Words(calls).lines)
        with self.subTest(calls=calls):
            told = ask(OPEN, *calls, CORNERS)[-1]
            self.assertEqual(told, flat(*[export for point in expected for export in point]))
        return len(expected)

    def test_of_any_nets(self):
        counts = {self.compare(random_net(seed)) for seed in range(8000, 8400)}
        self.assertGreaterEqual(counts, {2, 3, 4, 5, 6, 7})

    def test_rooms_of_0(self):
        counts = set()
        for seed in range(400):
            source = random.Random(seed)
            counts.add(self.compare([line(*[source.randint(-1, 1) for _ in range(3)], 0) for _ in range(4)]))
        self.assertGreaterEqual(counts, {1, 2, 3, 4})

    def test_lines_near_the_bound(self):
        counts = set()
        for seed in range(400):
            source = random.Random(seed)
            counts.add(self.compare([line(*[source.randint(-12, 12) for _ in range(3)], source.randint(900000, 1000000))
                                     for _ in range(4)]))
        self.assertGreaterEqual(counts, {5, 6, 7, 8, 9})


if __name__ == "__main__":
    unittest.main()
