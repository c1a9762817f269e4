"""Refusals, in the order that the document tells, and what changes a net."""

import unittest

from helper import (ALONE, BOOK, CLEAR, CORNERS, LOADS, MONEY, OPEN, PLAIN, PRICES, SHARES, ask, buy, cancel, check,
                    last, line, price_range, rooms, row, sell, supports, without)

HUGE = 10 ** 18
BLANK = [0, 0, 1, 0, 1, 0, 1]

NUMERATOR = (-10 ** 12, 10 ** 12)
DENOMINATOR = (1, 10 ** 9)
POINT = [(2,) + NUMERATOR, (3,) + DENOMINATOR, (4,) + NUMERATOR, (5,) + DENOMINATOR, (6,) + NUMERATOR,
         (7,) + DENOMINATOR]

# Each with a place, the least and the greatest number there, and a call that's in range.
BOUNDS = [
    (line(0, 0, 0, 0), [(1, -1000, 1000), (2, -1000, 1000), (3, -1000, 1000), (4, 0, 1000000)]),
    (rooms(1, 0), [(1, 1, 4), (2, 0, 1000000)]),
    (sell(1, 0, 1), [(1, 1, 3), (2, 0, 1), (3, -1000000, 1000000), (4, 1, 1000000)]),
    (check(0, 0, 0), POINT),
    (supports(0, 0, 0), POINT),
    (without(1), [(1, 1, 4)]),
    (price_range(1), [(1, 1, 3)]),
]
FOUR_LINES = [line(1, 2, 3, 4)] * 4
BARE_REPORTS = [CLEAR, PRICES, SHARES, LOADS, MONEY, CORNERS, PLAIN, ALONE, BOOK]
REPORTS = BARE_REPORTS + [check(0, 0, 0), supports(0, 0, 0), without(1)] + [price_range(zone) for zone in (1, 2, 3)]

# The start of each is a point that is in range.
LONGER = [1, 2, -3, 4, 2, 4] + [1] * 94


def put(call, place, number):
    return call[:place] + (number,) + call[place + 1:]


class NoNet(unittest.TestCase):
    def test_each_call_ahead_of_the_first_net(self):
        calls = [line(0, 0, 0, 0), rooms(1, 0), sell(1, 0, 1), buy(1, 0, 1), cancel(1)] + REPORTS
        self.assertEqual(ask(*calls), [[-2]] * 20)

    def test_they_leave_nothing_behind(self):
        told = ask(line(0, 0, 0, 0), sell(1, 0, 1), OPEN, SHARES, LOADS, line(0, 0, 0, 0), sell(1, 0, 1))
        self.assertEqual(told, [[-2], [-2], [0], [0], [0], [0, 1], [0, 1]])

    def test_a_number_out_of_range_goes_first(self):
        for call, bounds in BOUNDS:
            for place, least, greatest in bounds:
                for number in (least - 1, greatest + 1, -HUGE, HUGE):
                    with self.subTest(call=call, place=place, number=number):
                        self.assertEqual(ask(put(call, place, number)), [[-1]])

    def test_numbers_at_the_bounds_are_no_malformed_call(self):
        for call, bounds in BOUNDS:
            for place, least, greatest in bounds:
                for number in (least, greatest):
                    with self.subTest(call=call, place=place, number=number):
                        self.assertEqual(ask(put(call, place, number)), [[-2]])

    def test_cancel_takes_every_number(self):
        for number in (-HUGE, -1, 0, 1, HUGE):
            self.assertEqual(ask(cancel(number)), [[-2]])

    def test_a_point_of_another_count_goes_first(self):
        for call in (11, 12):
            for count in range(101):
                self.assertEqual(ask((call,) + row(LONGER[:count])), [[-2] if count == 6 else [-1]], count)


class Bounds(unittest.TestCase):
    def test_each_bound_and_one_beyond(self):
        for call, bounds in BOUNDS:
            for place, least, greatest in bounds:
                for number, good in ((least, True), (greatest, True), (least - 1, False), (greatest + 1, False),
                                     (-HUGE, False), (HUGE, False)):
                    with self.subTest(call=call, place=place, number=number):
                        lines = FOUR_LINES if call[0] in (2, 13) else []
                        self.assertEqual(last(*lines, put(call, place, number))[0], 0 if good else -1)

    def test_every_bound_together(self):
        self.assertEqual(last(line(-1000, -1000, -1000, 1000000)), [0, 1])
        self.assertEqual(last(line(1000, 1000, 1000, 0)), [0, 1])
        self.assertEqual(last(sell(3, 1000000, 1000000)), [0, 1])
        self.assertEqual(last(buy(1, -1000000, 1)), [0, 1])

    def test_out_of_range_goes_ahead_of_full_and_missing(self):
        self.assertEqual(last(*FOUR_LINES, line(0, 0, 0, -1)), [-1])
        self.assertEqual(last(*[sell(1, 1, 1)] * 10, sell(4, 1, 1)), [-1])
        self.assertEqual(last(rooms(1, -1)), [-1])
        self.assertEqual(last(rooms(5, 0)), [-1])
        self.assertEqual(last(rooms(0, 0)), [-1])
        self.assertEqual(last(without(5)), [-1])
        self.assertEqual(last(without(0)), [-1])


class NoSuchCall(unittest.TestCase):
    def test_ahead_of_the_first_net_and_on_it(self):
        for number in (-HUGE, -1, 18, 19, HUGE):
            self.assertEqual(ask((number,), OPEN, (number,), BOOK), [[-1], [0], [-1], [0, 0]])


class Points(unittest.TestCase):
    def test_of_another_count(self):
        for call in (11, 12):
            for count in range(101):
                with self.subTest(call=call, count=count):
                    told = last((call,) + row(LONGER[:count]))
                    self.assertEqual(told[0], 0 if count == 6 else -1)
                    self.assertEqual(len(told), 2 if count == 6 else 1)

    def test_of_another_count_with_numbers_out_of_range(self):
        for call in (11, 12):
            for numbers in ([HUGE], [-HUGE] * 5, [HUGE] * 6, [0] * 7, [0] * 100, [HUGE] * 100, [-HUGE] * 100):
                self.assertEqual(ask((call,) + row(numbers), OPEN, (call,) + row(numbers), BOOK),
                                 [[-1], [0], [-1], [0, 0]])

    def test_every_bound_together(self):
        for call in (11, 12):
            self.assertEqual(last((call,) + row([10 ** 12, 10 ** 9] * 3)), [0, 1])
            self.assertEqual(last((call,) + row([-10 ** 12, 10 ** 9] * 3)), [0, 1])
            self.assertEqual(last((call,) + row([10 ** 12, 1] * 3)), [0, 1])
            self.assertEqual(last((call,) + row([-10 ** 12, 1] * 3)), [0, 1])

    def test_calls_behind_them_are_found(self):
        for count in (0, 1, 5, 6, 7, 99, 100):
            point = row([0, 0, 17, 17, 17, 17, 0] + [17] * 93)[:1 + count]
            told = ask(OPEN, (11, count) + point[1:], sell(1, 5, 5), (12, count) + point[1:], BOOK)
            self.assertEqual(told[2], [0, 1])
            self.assertEqual(told[4], [0, 0, 1, 1, 0, 5, 5])


class Lines(unittest.TestCase):
    def test_numbers_and_the_fifth(self):
        told = ask(OPEN, *FOUR_LINES, line(1, 2, 3, 5), line(1, 2, 3, 5), LOADS)
        self.assertEqual(told, [[0], [0, 1], [0, 2], [0, 3], [0, 4], [-4], [-4], [0] + [0, 1, 4] * 4])

    def test_rooms_of_a_line_that_is_not_there(self):
        told = ask(OPEN, rooms(1, 7), line(0, 0, 0, 1), rooms(2, 7), rooms(4, 7), rooms(1, 7), line(0, 0, 0, 2),
                   rooms(2, 9), rooms(3, 9), LOADS)
        self.assertEqual(told, [[0], [-3], [0, 1], [-3], [-3], [0], [0, 2], [0], [-3], [0, 0, 1, 7, 0, 1, 9]])

    def test_rooms_changes_that_line_alone(self):
        told = last(line(0, 0, 0, 1), line(0, 0, 0, 2), line(0, 0, 0, 3), line(0, 0, 0, 4), rooms(3, 30), rooms(4, 0),
                    LOADS)
        self.assertEqual(told, [0, 0, 1, 1, 0, 1, 2, 0, 1, 30, 0, 1, 0])

    def test_lines_alike_stay_two(self):
        same = line(5, 5, 5, 5)
        self.assertEqual(last(same, same, rooms(2, 6), LOADS), [0, 0, 1, 5, 0, 1, 6])

    def test_a_new_room_counts_at_once(self):
        trade = [sell(1, 10, 100), buy(2, 50, 70), line(1000, 0, 0, 20)]
        told = ask(OPEN, *trade, CLEAR, rooms(1, 0), CLEAR, rooms(1, 1000000), CLEAR)
        self.assertEqual([told[k][1] for k in (4, 6, 8)], [20, 0, 70])


class Orders(unittest.TestCase):
    def test_numbers_and_the_eleventh(self):
        told = ask(OPEN, *[sell(1, 1, 1)] * 10, sell(1, 1, 1), buy(2, 1, 1), SHARES)
        self.assertEqual(told[1:11], [[0, number] for number in range(1, 11)])
        self.assertEqual(told[11:13], [[-4], [-4]])
        self.assertEqual(told[13], [0] + [0, 1] * 10)

    def test_numbers_after_a_cancel(self):
        told = ask(OPEN, *[sell(1, 1, 1)] * 10, sell(1, 1, 1), cancel(3), sell(1, 1, 1), cancel(11), cancel(10),
                   sell(1, 1, 1), sell(2, 1, 1), sell(3, 1, 1))
        self.assertEqual(told[11:], [[-4], [0], [0, 11], [0], [0], [0, 12], [0, 13], [-4]])

    def test_the_last_number_is_not_given_again(self):
        self.assertEqual(ask(OPEN, sell(1, 1, 1), cancel(1), sell(1, 1, 1))[3], [0, 2])

    def test_cancel_of_what_is_not_there(self):
        told = ask(OPEN, cancel(1), sell(1, 1, 1), cancel(0), cancel(2), cancel(-1), cancel(HUGE), cancel(-HUGE),
                   cancel(1), cancel(1), SHARES)
        self.assertEqual(told, [[0], [-3], [0, 1], [-3], [-3], [-3], [-3], [-3], [0], [-3], [0]])

    def test_a_cancelled_order_no_longer_counts(self):
        told = ask(OPEN, sell(1, 10, 100), sell(1, 20, 100), buy(2, 50, 70), CLEAR, cancel(1), CLEAR, SHARES, cancel(3),
                   CLEAR, SHARES)
        self.assertEqual(told[4], [0, 70, 1, -70, 1, 0, 1, 2800, 1])
        self.assertEqual(told[6], [0, 70, 1, -70, 1, 0, 1, 2100, 1])
        self.assertEqual(told[7], [0, 70, 1, 70, 1])
        self.assertEqual(told[9], BLANK + [0, 1])
        self.assertEqual(told[10], [0, 0, 1])

    def test_a_refused_order_takes_no_number(self):
        told = ask(OPEN, sell(1, 1, 1), sell(0, 1, 1), sell(1, 1, 0), sell(1, 1, 1))
        self.assertEqual(told[4], [0, 2])

    def test_an_order_is_put_behind_the_others(self):
        told = last(sell(3, 5, 1), buy(1, 9, 4), sell(2, 1, 7), cancel(1), sell(3, 5, 2), SHARES)
        self.assertEqual(told, [0, 4, 1, 4, 1, 0, 1])


class Reopened(unittest.TestCase):
    def test_a_new_net_has_nothing_of_the_old(self):
        told = ask(OPEN, line(1000, 0, 0, 5), sell(1, 1, 9), buy(2, 3, 9), OPEN, CLEAR, PRICES, SHARES, LOADS,
                   cancel(1), rooms(1, 1), sell(2, 1, 9), line(0, 0, 0, 1))
        self.assertEqual(told[4:], [[0], BLANK + [0, 1], BLANK, [0], [0], [-3], [-3], [0, 1], [0, 1]])

    def test_a_full_net_is_followed_by_an_empty_one(self):
        told = ask(OPEN, *FOUR_LINES, *[sell(1, 1, 1)] * 10, OPEN, line(0, 0, 0, 0), sell(1, 1, 1))
        self.assertEqual(told[15:], [[0], [0, 1], [0, 1]])

    def test_two_in_a_row(self):
        self.assertEqual(ask(OPEN, OPEN, CLEAR), [[0], [0], BLANK + [0, 1]])


class Refused(unittest.TestCase):
    def test_everything_is_as_it_was(self):
        net = [OPEN, line(1000, 200, 0, 3), sell(1, 10, 7), buy(2, 30, 5), buy(3, 20, 6)]
        wrong = [line(0, 0, 2000, 0), rooms(2, 0), rooms(1, -1), rooms(5, 0), sell(1, 0, 0), (3, 1, 2, 0, 1), cancel(4),
                 (11,) + row([0, 1] * 2), (12,) + row([0, 0] * 3), without(2), without(5), price_range(4)]
        for call in wrong:
            with self.subTest(call=call):
                told = ask(*net, *REPORTS, call, *REPORTS)
                self.assertEqual(len(told), 36)
                self.assertLess(told[20][0], 0)
                self.assertEqual(len(told[20]), 1)
                self.assertEqual(told[21:], told[5:20])

    def test_asking_changes_nothing(self):
        net = [OPEN, line(1000, 200, 0, 3), sell(1, 10, 7), buy(2, 30, 5), buy(3, 20, 6)]
        told = ask(*net, *REPORTS, *REPORTS[::-1], line(1, 1, 1, 1), cancel(2), sell(1, 1, 1))
        self.assertEqual(told[5:20], told[20:35][::-1])
        self.assertEqual(told[35:], [[0, 2], [0], [0, 4]])


if __name__ == "__main__":
    unittest.main()
