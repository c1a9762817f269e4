"""The form of what is handed in and given back."""

import unittest

from helper import (ALONE, BOOK, CLEAR, CORNERS, LOADS, MONEY, OPEN, PLAIN, PRICES, SHARES, ask, buy, cancel, check,
                    line, price_range, rooms, row, sell, supports, without)
from zonelines.house import answers

CALLS = [OPEN, line(700, -300, 100, 3), line(-20, 40, 0, 1), rooms(2, 5), sell(1, 10, 30), buy(2, 40, 25),
         buy(3, 30, 9), sell(3, -5, 2), cancel(3), CLEAR, PRICES, SHARES, LOADS, MONEY, CORNERS, check(1, -1, 0),
         check(1, 1, 1), supports(1, 2, 3), without(1), price_range(2), PLAIN, ALONE, BOOK, (1, 1001, 0, 0, 0),
         cancel(99), without(3), price_range(0), (11,) + row([0, 2] * 3), (12,) + row([5] * 100), OPEN, BOOK]


def joined(calls):
    return [number for call in calls for number in call]


class Interface(unittest.TestCase):
    def test_counts_stand_ahead_of_each_answer(self):
        self.assertEqual(answers([0]), [1, 0])
        self.assertEqual(answers([5]), [1, -2])
        self.assertEqual(answers([0, 3, 1, 0, 10, 4, 5, 4, 7, 7, 7]),
                         [1, 0, 2, 0, 1, 9, 0, 0, 1, 0, 1, 0, 1, 0, 1, 1, -3, 3, 0, 0, 1, 3, 0, 0, 1])

    def test_the_list_is_as_it_was_and_a_second_time_answers_the_same(self):
        calls = joined(CALLS)
        before = list(calls)
        first = answers(calls)
        self.assertEqual(calls, before)
        self.assertEqual(answers(calls), first)
        self.assertEqual(calls, before)

    def test_nothing_is_kept_from_one_time_to_the_next(self):
        answers(joined(CALLS))
        self.assertEqual(answers([5]), [1, -2])
        self.assertEqual(ask(OPEN, line(1, 2, 3, 4), sell(1, 1, 1)), [[0], [0, 1], [0, 1]])

    def test_what_is_given_back_belongs_to_the_caller(self):
        first = answers(joined(CALLS))
        kept = list(first)
        first.clear()
        self.assertEqual(answers(joined(CALLS)), kept)

    def test_the_answer_is_a_list_of_whole_numbers(self):
        told = answers(joined(CALLS))
        self.assertIs(type(told), list)
        self.assertEqual({type(number) for number in told}, {int})

    def test_a_hundred_calls(self):
        told = ask(*([OPEN] + [sell(1, 5, 5), cancel(1)] + [CLEAR] * 97))
        self.assertEqual(len(told), 100)
        self.assertEqual(told[99], [0, 0, 1, 0, 1, 0, 1, 0, 1])

    def test_the_longest_list(self):
        told = ask(*[(11,) + row([1] * 100), (12,) + row([-1] * 100)] * 50)
        self.assertEqual(told, [[-1]] * 100)

    def test_all_eighteen_calls_are_among_those_above(self):
        self.assertEqual({call[0] for call in CALLS}, set(range(18)))

    def test_whole_numbers_and_fractions_of_each_answer(self):
        net = [OPEN, line(700, 0, 0, 1), sell(1, 10, 100), buy(2, 50, 70)]
        told = ask(*net, LOADS, MONEY, check(1, -1, 0), check(1, -2, 0), supports(10, 50, 50), without(1),
                   price_range(1), PLAIN, ALONE, BOOK)[4:]
        self.assertEqual(told, [
            [0, 1, 1, 1], [0, 500, 7, 100, 7, 400, 7], [0, 0, 40, 1, 120, 7], [0, 1], [0, 1], [0, 19200, 7],
            [0, 1, 10, 1, 10], [0, 1], [0, 0, 0, 0, 400, 7],
            [0, 1, 700, 0, 0, 1, 1, 1, 0, 10, 100, 2, 2, 1, 50, 70]])

    def test_a_list_of_each_call_alone(self):
        for call in CALLS:
            self.assertEqual(answers(list(call))[0], 1)


if __name__ == "__main__":
    unittest.main()
