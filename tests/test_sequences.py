"""Sequences of all eighteen calls, held against a model of the document."""

import random
import unittest
from fractions import Fraction

from helper import (ALONE, BOOK, CLEAR, CORNERS, LOADS, MONEY, OPEN, PLAIN, PRICES, SHARES, as_fractions, ask,
                    can_be_handed_in, cancel, check, price_range, rooms, row, supports, without)
from nets import KINDS, random_line, random_order
from words import Words
from zonelines.house import answers

BARE_REPORTS = (CLEAR, PRICES, SHARES, LOADS, MONEY, CORNERS, PLAIN, ALONE, BOOK)
BEYOND = (-10 ** 18, -10 ** 12 - 1, -1000001, -1001, -1, 0, 2, 4, 5, 1001, 1000001, 10 ** 9 + 1, 10 ** 12 + 1, 10 ** 18)


class Model:
    """What the document says that calls answer and leave behind."""

    def __init__(self):
        self.lines = None
        self.orders = None
        self.given = 0

    def answer(self, call):
        if not self.in_range(call):
            return [-1]
        if call == OPEN:
            self.lines, self.orders, self.given = [], {}, 0
            return [0]
        if self.lines is None:
            return [-2]
        return getattr(self, {1: "line", 2: "rooms", 3: "order", 4: "cancel", 13: "without", 17: "book"}
                       .get(call[0], "report"))(call)

    def in_range(self, call):
        if call[0] == 1:
            return all(-1000 <= factor <= 1000 for factor in call[1:4]) and 0 <= call[4] <= 1000000
        if call[0] == 2:
            return 1 <= call[1] <= 4 and 0 <= call[2] <= 1000000
        if call[0] == 3:
            return call[1] in (1, 2, 3) and call[2] in (0, 1) and abs(call[3]) <= 1000000 and 1 <= call[4] <= 1000000
        if call[0] in (11, 12):
            return (call[1] == 6 and all(abs(top) <= 10 ** 12 for top in call[2::2])
                    and all(1 <= bottom <= 10 ** 9 for bottom in call[3::2]))
        if call[0] == 13:
            return 1 <= call[1] <= 4
        if call[0] == 14:
            return 1 <= call[1] <= 3
        return True

    def line(self, call):
        if len(self.lines) == 4:
            return [-4]
        self.lines.append(call)
        return [0, len(self.lines)]

    def rooms(self, call):
        if call[1] > len(self.lines):
            return [-3]
        self.lines[call[1] - 1] = self.lines[call[1] - 1][:4] + (call[2],)
        return [0]

    def order(self, call):
        if len(self.orders) == 10:
            return [-4]
        self.given += 1
        self.orders[self.given] = call
        return [0, self.given]

    def cancel(self, call):
        return [0] if self.orders.pop(call[1], None) else [-3]

    def without(self, call):
        return self.report(call) if call[1] <= len(self.lines) else [-3]

    def book(self, call):
        told = [0, len(self.lines)]
        for entered in self.lines:
            told += entered[1:]
        for number, entered in self.orders.items():
            told += (number,) + entered[1:]
        return told

    def report(self, call):
        return self.words().answer(call)

    def words(self):
        return Words(self.lines + list(self.orders.values()))


class Chance:
    """Calls by chance, many of them fit for the net that the model has by now."""

    def __init__(self, seed, model):
        self.source = random.Random(seed)
        self.kind = KINDS[seed % len(KINDS)]
        self.model = model

    def call(self):
        choice = self.source.randint(0, 99)
        if choice < 2:
            return OPEN
        if choice < 14:
            return random_line(self.kind, self.source)
        if choice < 18:
            return rooms(self.source.randint(0, 5), self.source.choice(self.kind[1]))
        if choice < 48:
            return random_order(self.kind, self.source, trading=True)
        if choice < 56:
            return cancel(self.source.randint(-1, 25))
        if choice < 64:
            return self.spoilt()
        return self.report()

    def spoilt(self):
        call = self.source.choice((random_line, random_order))(self.kind, self.source)
        if self.source.randint(0, 1):
            call = self.source.choice((11, 12)), 6, 0, 1, 0, 1, 0, 1
            if self.source.randint(0, 1):
                return call[:1] + row([self.source.choice((-1, 0, 1, 17)) for _ in range(self.source.randint(0, 100))])
        place = self.source.randint(1 if call[0] < 11 else 2, len(call) - 1)
        return call[:place] + (self.source.choice(BEYOND),) + call[place + 1:]

    def report(self):
        choice = self.source.randint(0, 12)
        if choice < 9:
            return BARE_REPORTS[choice]
        if choice == 9:
            return without(self.source.randint(0, 5))
        if choice == 10:
            return price_range(self.source.randint(0, 4))
        if choice == 11:
            return check(*self.near("exports", True))
        return supports(*self.near("prices", False))

    def near(self, name, balanced):
        """The net exports or the prices, or a point near them."""
        if self.model.lines is None:
            return (0, 0, 0)
        point = list(getattr(self.model.words(), name))
        part = self.source.choice((Fraction(0), Fraction(1), Fraction(1, 2), Fraction(9, 8)))
        point = [part * value for value in point] if balanced else point
        if self.source.randint(0, 2) == 0:
            point[self.source.randint(0, 2)] += Fraction(1, self.source.randint(1, 9))
        return point if can_be_handed_in(point) else (1, -1, 0)


class Sequences(unittest.TestCase):
    def sequence(self, seed):
        """Up to a hundred calls, and what the model answers."""
        model = Model()
        chance = Chance(seed, model)
        calls = []
        expected = []
        for place in range(100):
            calls.append(OPEN if place == 6 else chance.call())
            expected.append(model.answer(calls[-1]))
        return calls, expected

    def test_any_order_of_calls(self):
        seen = {}
        for seed in range(60):
            calls, expected = self.sequence(seed)
            for call, wanted, told in zip(calls, expected, ask(*calls)):
                with self.subTest(seed=seed, call=call):
                    self.assertEqual(told, wanted)
                seen.setdefault(call[0], set()).add(min(told[0], 0))
        self.assertEqual(seen, {
            0: {0}, 1: {0, -1, -2, -4}, 2: {0, -1, -2, -3}, 3: {0, -1, -2, -4}, 4: {0, -2, -3}, 5: {0, -2}, 6: {0, -2},
            7: {0, -2}, 8: {0, -2}, 9: {0, -2}, 10: {0, -2}, 11: {0, -1, -2}, 12: {0, -1, -2}, 13: {0, -1, -2, -3},
            14: {0, -1, -2}, 15: {0, -2}, 16: {0, -2}, 17: {0, -2}})

    def test_the_list_is_as_it_was_and_a_second_time_answers_the_same(self):
        for seed in range(100, 120):
            calls = [number for call in self.sequence(seed)[0] for number in call]
            before = list(calls)
            first = answers(calls)
            self.assertEqual(calls, before)
            self.assertEqual(answers(calls), first)
            self.assertEqual(calls, before)

    def test_one_list_is_like_its_beginning_and_more(self):
        calls, expected = self.sequence(7)
        for length in range(1, 101):
            self.assertEqual(ask(*calls[:length]), expected[:length])

    def test_what_is_told_fits_together(self):
        """clear, money, check, supports, alone and book speak of one net."""
        for seed in range(200, 230):
            calls, _ = self.sequence(seed)
            cleared, prices, money, alone = ask(*calls[:90], CLEAR, PRICES, MONEY, ALONE)[-4:]
            exports = as_fractions(cleared[1:7])
            self.assertEqual(sum(exports), 0)
            rent = -sum(p * x for p, x in zip(as_fractions(prices[1:]), exports))
            self.assertEqual(as_fractions(money[5:]), [rent])
            self.assertEqual(as_fractions(cleared[7:])[0], sum(alone[1:4]) + as_fractions(alone[4:])[0])
            if can_be_handed_in(exports):
                self.assertEqual(ask(*calls[:90], check(*exports))[-1], [0, 0] + cleared[7:] + [0, 1])
            if can_be_handed_in(as_fractions(prices[1:])):
                self.assertEqual(ask(*calls[:90], supports(*as_fractions(prices[1:])))[-1], [0, 1])


if __name__ == "__main__":
    unittest.main()
