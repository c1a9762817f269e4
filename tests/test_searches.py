"""Many nets, their answers held against the document's words in fractions."""

import random
import unittest
from fractions import Fraction
from math import gcd

from helper import (CLEAR, LOADS, OPEN, PRICES, SHARES, Words, as_fractions, ask, buy, cancel, flat, line, rooms, sell)

# factors, rooms, prices, amounts: few numbers make for ties, many for fractions.
KINDS = [
    ((-1000, -500, 0, 500, 1000), (0, 1, 2, 3), range(-3, 4), range(1, 5)),
    (range(-3, 4), (0, 0, 0, 1), range(-3, 4), range(1, 5)),
    (range(-1000, 1001), (0, 0, 1), range(-3, 4), range(1, 5)),
    (range(-1000, 1001), (0, 1, 2, 5, 10), range(-50, 51), range(1, 21)),
    (range(-1000, 1001), range(1000001), range(-1000000, 1000001), range(1, 1000001)),
]


def random_line(kind, source):
    factors, sizes, _, _ = kind
    return line(*[source.choice(factors) for _ in range(3)], source.choice(sizes))


def random_order(kind, source):
    _, _, prices, amounts = kind
    side = source.choice((sell, buy))
    return side(source.randint(1, 3), source.choice(prices), source.choice(amounts))


def random_net(seed):
    source = random.Random(seed)
    kind = KINDS[seed % len(KINDS)]
    calls = [random_line(kind, source) for _ in range(source.randint(0, 4))]
    calls += [random_order(kind, source) for _ in range(source.randint(0, 10))]
    source.shuffle(calls)
    return calls


class Searches(unittest.TestCase):
    def test_exports_prices_shares_and_loads(self):
        for seed in range(600):
            calls = random_net(seed)
            with self.subTest(seed=seed, calls=calls):
                self.check(Words(calls), ask(OPEN, *calls, CLEAR, PRICES, SHARES, LOADS)[-4:])

    def check(self, words, told):
        cleared = as_fractions(told[0][1:])
        exports = tuple(cleared[:3])
        prices = tuple(as_fractions(told[1][1:]))
        self.assertTrue(words.is_possible(exports))
        self.assertEqual(told[0], flat(*exports, words.worth(exports)))
        self.assertTrue(words.supports(prices, exports))
        self.assertEqual(words.best_exports(prices), exports)
        self.assertEqual(told[1], flat(*words.nearest_prices(exports)))
        self.assertEqual(told[2], flat(*words.shares(exports)))
        loads = [0]
        for number, told_line in enumerate(words.lines):
            loads += flat(words.load(number, exports))[1:] + [told_line[3]]
        self.assertEqual(told[3], loads)

    def test_no_possible_exports_are_worth_more(self):
        for seed in range(1000, 1150):
            calls = random_net(seed)
            words = Words(calls)
            told = as_fractions(ask(OPEN, *calls, CLEAR)[-1][1:])
            with self.subTest(seed=seed, calls=calls):
                for exports in self.possible_points(words, random.Random(seed)):
                    self.assertTrue(words.is_possible(exports))
                    rank = (words.worth(exports),) + exports[:2]
                    self.assertLessEqual(rank, (told[3], told[0], told[1]))

    def possible_points(self, words, source):
        """The corners of what is possible, and points between and within them."""
        corners = words.possible_corners()
        points = list(corners)
        for _ in range(40):
            chosen = [source.choice(corners) for _ in range(3)]
            weights = [source.randint(0, 3) for _ in range(2)] + [1]
            total = Fraction(sum(weights))
            points.append(tuple(sum(weight * corner[k] for weight, corner in zip(weights, chosen)) / total
                                for k in range(3)))
        return points

    def test_whole_points_of_a_small_net(self):
        for seed in range(2000, 2050):
            calls = random_net(5 * seed)
            words = Words(calls)
            told = as_fractions(ask(OPEN, *calls, CLEAR)[-1][1:])
            spans = [words.span(zone) for zone in (1, 2, 3)]
            with self.subTest(calls=calls):
                for first in range(spans[0][0], spans[0][1] + 1):
                    for second in range(spans[1][0], spans[1][1] + 1):
                        exports = (first, second, -first - second)
                        if words.is_possible(exports):
                            self.assertLessEqual((words.worth(exports), first, second), (told[3], told[0], told[1]))

    def test_lowest_terms(self):
        for seed in range(3000, 3200):
            told = ask(OPEN, *random_net(seed), CLEAR, PRICES, SHARES, LOADS)[-4:]
            pairs = []
            for answer in told[:3]:
                pairs += list(zip(answer[1::2], answer[2::2]))
            pairs += list(zip(told[3][1::3], told[3][2::3]))
            for top, bottom in pairs:
                self.assertGreater(bottom, 0)
                self.assertEqual(gcd(top, bottom), 1)


class Model:
    """What the calls that change a net should answer and leave behind."""

    def __init__(self):
        self.lines = None
        self.orders = None
        self.given = 0

    def answer(self, call):
        if not self.in_range(call):
            return [-1]
        if call == OPEN:
            self.lines, self.orders, self.given = [], {}, 0
            return [0]
        if self.lines is None:
            return [-2]
        return getattr(self, {1: "line", 2: "rooms", 3: "order", 4: "cancel"}.get(call[0], "report"))(call)

    def in_range(self, call):
        if call[0] == 1:
            return all(-1000 <= factor <= 1000 for factor in call[1:4]) and 0 <= call[4] <= 1000000
        if call[0] == 2:
            return 1 <= call[1] <= 4 and 0 <= call[2] <= 1000000
        if call[0] == 3:
            return call[1] in (1, 2, 3) and call[2] in (0, 1) and abs(call[3]) <= 1000000 and 1 <= call[4] <= 1000000
        return True

    def line(self, call):
        if len(self.lines) == 4:
            return [-4]
        self.lines.append(call)
        return [0, len(self.lines)]

    def rooms(self, call):
        if call[1] > len(self.lines):
            return [-3]
        self.lines[call[1] - 1] = self.lines[call[1] - 1][:4] + (call[2],)
        return [0]

    def order(self, call):
        if len(self.orders) == 10:
            return [-4]
        self.given += 1
        self.orders[self.given] = call
        return [0, self.given]

    def cancel(self, call):
        return [0] if self.orders.pop(call[1], None) else [-3]

    def report(self, call):
        return ask(OPEN, *self.lines, *self.orders.values(), call)[-1]


class Sequences(unittest.TestCase):
    def random_call(self, kind, source):
        choice = source.randint(0, 40)
        if choice == 0:
            return OPEN
        if choice <= 6:
            return random_line(kind, source)
        if choice <= 9:
            return rooms(source.randint(0, 5), source.choice(kind[1]))
        if choice <= 22:
            return random_order(kind, source)
        if choice <= 28:
            return cancel(source.randint(-1, 25))
        if choice <= 32:
            return self.spoilt(source.choice((random_line, random_order))(kind, source), source)
        return source.choice((CLEAR, PRICES, SHARES, LOADS))

    def spoilt(self, call, source):
        place = source.randint(1, len(call) - 1)
        wrong = source.choice((-10 ** 18, -1000001, -1001, -1, 0, 2, 4, 1001, 1000001, 10 ** 18))
        return call[:place] + (wrong,) + call[place + 1:]

    def test_any_order_of_calls(self):
        for seed in range(150):
            source = random.Random(seed)
            kind = KINDS[seed % len(KINDS)]
            calls = [self.random_call(kind, source) for _ in range(4)] + [OPEN]
            calls += [self.random_call(kind, source) for _ in range(95)]
            model = Model()
            with self.subTest(seed=seed):
                for call, told in zip(calls, ask(*calls)):
                    self.assertEqual(told, model.answer(call), call)


if __name__ == "__main__":
    unittest.main()
