"""The form of what is handed in and given back."""

import unittest

from helper import CLEAR, LOADS, OPEN, PRICES, SHARES, ask, buy, cancel, line, rooms, sell
from zonelines.house import answers

CALLS = [OPEN, line(700, -300, 100, 3), line(-20, 40, 0, 1), rooms(2, 5), sell(1, 10, 30), buy(2, 40, 25),
         buy(3, 30, 9), sell(3, -5, 2), cancel(3), CLEAR, PRICES, SHARES, LOADS, (1, 1001, 0, 0, 0), cancel(99)]

LATER = [(9,), (10,), (11, 6, 0, 1, 0, 1, 0, 1), (11, 0), (12, 6, 0, 1, 0, 1, 0, 1), (12, 3, 7, 7, 7), (13, 1),
         (14, 3), (15,), (16,), (17,)]


def joined(calls):
    return [number for call in calls for number in call]


class Interface(unittest.TestCase):
    def test_counts_stand_ahead_of_each_answer(self):
        self.assertEqual(answers([0]), [1, 0])
        self.assertEqual(answers([5]), [1, -2])
        self.assertEqual(answers([0, 3, 1, 0, 10, 4, 5, 4, 7, 7, 7]),
                         [1, 0, 2, 0, 1, 9, 0, 0, 1, 0, 1, 0, 1, 0, 1, 1, -3, 3, 0, 0, 1, 3, 0, 0, 1])

    def test_the_list_is_as_it_was_and_a_second_time_answers_the_same(self):
        calls = joined(CALLS)
        before = list(calls)
        first = answers(calls)
        self.assertEqual(calls, before)
        self.assertEqual(answers(calls), first)
        self.assertEqual(calls, before)

    def test_nothing_is_kept_from_one_time_to_the_next(self):
        answers(joined(CALLS))
        self.assertEqual(answers([5]), [1, -2])
        self.assertEqual(ask(OPEN, line(1, 2, 3, 4), sell(1, 1, 1)), [[0], [0, 1], [0, 1]])

    def test_what_is_given_back_belongs_to_the_caller(self):
        first = answers(joined(CALLS))
        kept = list(first)
        first.clear()
        self.assertEqual(answers(joined(CALLS)), kept)

    def test_the_answer_is_a_list_of_whole_numbers(self):
        told = answers(joined(CALLS))
        self.assertIs(type(told), list)
        self.assertEqual({type(number) for number in told}, {int})

    def test_a_hundred_calls(self):
        told = ask(*([OPEN] + [sell(1, 5, 5), cancel(1)] + [CLEAR] * 97))
        self.assertEqual(len(told), 100)
        self.assertEqual(told[99], [0, 0, 1, 0, 1, 0, 1, 0, 1])

    def test_calls_behind_later_ones_are_found(self):
        for later in LATER:
            with self.subTest(later=later):
                told = ask(OPEN, later, sell(1, 5, 5), later, SHARES)
                self.assertEqual(told[2], [0, 1])
                self.assertEqual(told[4], [0, 0, 1])


if __name__ == "__main__":
    unittest.main()
