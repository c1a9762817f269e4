"""money, corners, check, supports, without, range, plain, alone and book on nets worked out by hand."""

import unittest
from fractions import Fraction as F

from helper import (ALONE, BOOK, CLEAR, CORNERS, FAR, LOADS, MONEY, OPEN, PLAIN, PRICES, ask, buy, cancel, check,
                    flat, last, line, price_range, rooms, row, sell, supports, without)

TRADE = [sell(1, 10, 100), buy(2, 50, 70)]
NARROW = line(1000, 0, 0, 20)
TINY = F(1, 10 ** 9)

# Zone 3 exports at 100 though zone 2 imports at 55, since that eases the line for zone 1.
EASED = [sell(1, 10, 100), sell(3, 100, 100), buy(2, 90, 60), line(1000, 0, -1000, 20)]

ZONE_1_CUT_OFF = [line(1000, 0, 0, 0), line(-1000, 0, 0, 0)]
SHUT = [line(1000, 0, 0, 0), line(0, 1000, 0, 0), line(0, 0, 1000, 0)]


class Money(unittest.TestCase):
    def test_nothing_is_there(self):
        self.assertEqual(last(MONEY), flat(0, 0, 0))

    def test_nothing_is_traded(self):
        self.assertEqual(last(buy(1, 50, 10), MONEY), flat(0, 0, 0))
        self.assertEqual(last(*TRADE, line(1000, 0, 0, 0), MONEY), flat(0, 0, 0))

    def test_nothing_is_exported_but_a_zone_trades_within_itself(self):
        self.assertEqual(last(sell(2, 10, 30), buy(2, 40, 20), sell(2, 5, 8), MONEY), flat(200, 200, 0))

    def test_no_line_binds(self):
        self.assertEqual(last(*TRADE, MONEY), flat(700, 700, 0))
        self.assertEqual(last(*TRADE, line(1000, 0, 0, 70), MONEY), flat(700, 700, 0))

    def test_a_line_binds(self):
        self.assertEqual(last(*TRADE, NARROW, MONEY), flat(1000, 200, 800))
        self.assertEqual(last(*TRADE, line(700, 0, 0, 1), MONEY), flat(F(500, 7), F(100, 7), F(400, 7)))
        self.assertEqual(last(*EASED, MONEY), flat(3300, 2400, 900))

    def test_it_is_the_zones_price_and_not_the_orders(self):
        told = last(sell(1, 10, 4), sell(1, 20, 9), buy(2, 60, 3), buy(2, 50, 3), MONEY)
        self.assertEqual(told, flat(120, 120, 0))

    def test_prices_below_0(self):
        self.assertEqual(last(sell(1, -20, 10), buy(2, -5, 4), MONEY), flat(-80, -80, 0))
        self.assertEqual(last(sell(1, -20, 10), buy(2, -5, 4), line(500, -500, 0, 3), MONEY), flat(-15, -60, 45))

    def test_a_price_below_0_and_one_above(self):
        self.assertEqual(last(sell(1, -20, 10), buy(3, 5, 40), line(1000, 0, 0, 7), MONEY), flat(35, -140, 175))

    def test_after_a_cancel(self):
        self.assertEqual(last(sell(1, 5, 100), *TRADE, NARROW, cancel(1), MONEY), flat(1000, 200, 800))


class Corners(unittest.TestCase):
    bare = [(-FAR, 0), (-FAR, FAR), (0, -FAR), (0, FAR), (FAR, -FAR), (FAR, 0)]
    zone_1_imports = [(-FAR, 0), (-FAR, FAR), (0, -FAR), (0, FAR)]

    def assert_corners(self, lines, corners):
        self.assertEqual(last(*lines, CORNERS), flat(*[export for corner in corners for export in corner]))

    def test_without_lines(self):
        self.assert_corners([], self.bare)

    def test_orders_do_not_count(self):
        self.assert_corners(TRADE, self.bare)

    def test_factors_all_equal_or_all_0(self):
        for factor in (-1000, -1, 0, 1, 1000):
            for room in (0, 1, 1000000):
                self.assert_corners([line(factor, factor, factor, room)], self.bare)

    def test_room_of_0(self):
        self.assert_corners([line(1000, 0, 0, 0)], self.zone_1_imports)
        self.assert_corners([line(0, 1, 0, 0)], [(-FAR, 0), (0, -FAR), (FAR, -FAR), (FAR, 0)])
        self.assert_corners([line(0, 0, 5, 0)], [(-FAR, FAR), (0, FAR), (FAR, -FAR), (FAR, 0)])
        self.assert_corners([line(7, 7, 0, 0)], [(-FAR, 0), (-FAR, FAR), (0, -FAR), (FAR, -FAR)])

    def test_room(self):
        self.assert_corners([line(1000, 0, 0, 7)], self.zone_1_imports + [(7, -FAR), (7, FAR - 7)])
        self.assert_corners([line(500, 0, 0, 7)], self.zone_1_imports + [(14, -FAR), (14, FAR - 14)])

    def test_corners_at_fractions(self):
        edge = F(10, 7)
        self.assert_corners([line(700, 0, 0, 1)], self.zone_1_imports + [(edge, -FAR), (edge, FAR - edge)])

    def test_zone_3s_factor_counts_for_both_others(self):
        # 3 times zone 1's export plus zone 2's at most 6000.
        self.assert_corners([line(2, 0, -1, 6)], [(-FAR, 0), (-FAR, FAR), (F(6000 - FAR, 3), FAR), (0, -FAR),
                                                  (F(FAR + 6000, 3), -FAR)])

    def test_a_corner_that_is_left_by_two_lines_only(self):
        # Zone 1 exports at most 4, zone 2 at most 3.
        self.assert_corners([line(1000, 0, 0, 4), line(0, 1000, 0, 3)],
                            [(-FAR, 0), (-FAR, 3), (0, -FAR), (4, -FAR), (4, 3)])

    def test_two_lines_that_let_one_way_only(self):
        self.assert_corners([line(1000, 0, 0, 0), line(0, 1000, 0, 0)], [(-FAR, 0), (0, -FAR), (0, 0)])

    def test_two_lines_with_one_straight_way_between_them(self):
        self.assert_corners(ZONE_1_CUT_OFF, [(0, -FAR), (0, FAR)])
        self.assert_corners([line(0, 1000, 0, 0), line(0, -10, 0, 0)], [(-FAR, 0), (FAR, 0)])
        self.assert_corners([line(0, 0, 1000, 0), line(0, 0, -1000, 0)], [(-FAR, FAR), (FAR, -FAR)])
        half = FAR // 2
        self.assert_corners([line(1000, -1000, 0, 0), line(-1, 1, 0, 0)], [(-half, -half), (half, half)])

    def test_a_straight_way_that_ends_at_nothing_exported(self):
        self.assert_corners(ZONE_1_CUT_OFF + [line(0, 1000, 0, 0)], [(0, -FAR), (0, 0)])
        self.assert_corners(ZONE_1_CUT_OFF + [line(0, -1000, 0, 0)], [(0, 0), (0, FAR)])

    def test_nothing_but_0_is_let(self):
        self.assert_corners(SHUT, [(0, 0)])
        self.assert_corners(SHUT + [line(3, 2, 1, 0)], [(0, 0)])
        self.assert_corners(ZONE_1_CUT_OFF + [line(0, 1000, 0, 0), line(0, -1000, 0, 0)], [(0, 0)])

    def test_two_that_are_the_same(self):
        self.assert_corners([line(1000, 0, 0, 0)] * 2, self.zone_1_imports)
        self.assert_corners([line(1000, 0, 0, 0), line(10, 0, 0, 0)], self.zone_1_imports)
        self.assert_corners([line(1000, 0, 0, 7)] * 4, self.zone_1_imports + [(7, -FAR), (7, FAR - 7)])
        self.assert_corners([line(1000, 0, 0, 7), line(500, -500, -500, 7)],
                            self.zone_1_imports + [(7, -FAR), (7, FAR - 7)])

    def test_one_behind_another(self):
        self.assert_corners([line(1000, 0, 0, 7), line(1000, 0, 0, 8)],
                            self.zone_1_imports + [(7, -FAR), (7, FAR - 7)])

    def test_a_line_beyond_the_bound(self):
        self.assert_corners([line(1, 0, 0, 1000000)], self.bare)
        self.assert_corners([line(9, 0, 0, 1000000)], self.bare)

    def test_a_line_along_the_bound(self):
        self.assert_corners([line(10, 0, 0, 1000000)], self.bare)
        self.assert_corners([line(0, 0, -10, 1000000)], self.bare)

    def test_a_line_that_touches_a_corner_of_the_bound(self):
        self.assert_corners([line(10, 5, 0, 1000000)], self.bare)

    def test_a_line_just_within_the_bound(self):
        edge = F(10 ** 9, 11)
        self.assert_corners([line(11, 0, 0, 1000000)], self.zone_1_imports + [(edge, -FAR), (edge, FAR - edge)])
        # The corner where zone 1 exports FAR and zone 2 nothing is cut off, by 1000 of 1000000000.
        self.assert_corners([line(10, 6, 0, 999999)],
                            self.bare[:4] + [(F(10 ** 9 - 1000 - 6 * FAR, 4), F(FAR * 10 - 10 ** 9 + 1000, 4)),
                                             (FAR, -FAR), (FAR, F(-1000, 6))])

    def test_lines_that_cross_beyond_the_bound(self):
        # They'd leave one corner where zone 1 exports 200000000.
        self.assert_corners([line(0, 1000, 0, 0), line(1, -1000, 0, 200000)],
                            [(-FAR, 0), (F(-99800000000, 1001), F(-300000000, 1001)), (FAR, -100000), (FAR, 0)])

    def test_after_rooms(self):
        self.assert_corners([line(1000, 0, 0, 7), rooms(1, 0)], self.zone_1_imports)


class Check(unittest.TestCase):
    net = TRADE + [NARROW]

    def assert_verdict(self, calls, point, *told):
        self.assertEqual(last(*calls, check(*point)), [0] + list(told))

    def assert_possible(self, calls, point, worth, more):
        self.assertEqual(last(*calls, check(*point)), [0] + flat(worth, more))

    def test_not_balanced(self):
        for point in ((1, 0, 0), (0, -1, 0), (0, 0, TINY), (F(1, 2), F(1, 3), F(-2, 3)), (20, -20, -TINY),
                      (10 ** 12, 10 ** 12, 10 ** 12), (21, -20, 0)):
            self.assert_verdict(self.net, point, 1)

    def test_not_let_by_a_line(self):
        self.assert_verdict(self.net, (21, -21, 0), 2)
        self.assert_verdict(self.net, (20 + TINY, -20 - TINY, 0), 2)
        self.assert_verdict(self.net, (20 + TINY, -20, -TINY), 2)
        self.assert_verdict(TRADE + [line(0, 0, 0, 5), NARROW, line(1, 2, 3, 1000000)], (21, -21, 0), 2)

    def test_not_let_by_the_bound(self):
        over = FAR + F(1, 1000)
        half = F(FAR, 2)
        for point in ((over, -half, half - over), (-over, half, over - half), (half, -over, over - half),
                      (-half, over, half - over), (half, over - half, -over), (-half, half - over, over)):
            self.assert_verdict([], point, 2)
            self.assert_verdict(TRADE, point, 2)

    def test_at_the_bound(self):
        for point in ((FAR, -FAR, 0), (-FAR, FAR, 0), (FAR, 0, -FAR), (-FAR, 0, FAR), (0, FAR, -FAR), (0, -FAR, FAR)):
            self.assert_verdict(TRADE, point, 3)

    def test_not_possible(self):
        for point in ((-TINY, TINY, 0), (-TINY, 0, TINY), (TINY, 0, -TINY), (0, -TINY, TINY), (1, TINY, -1 - TINY)):
            self.assert_verdict(self.net, point, 3)
        self.assert_verdict(TRADE, (70 + TINY, -70 - TINY, 0), 3)
        self.assert_verdict([sell(1, 10, 100), buy(2, 50, 700)], (100 + TINY, -100 - TINY, 0), 3)
        self.assert_verdict([], (1, -1, 0), 3)

    def test_not_let_goes_ahead_of_not_possible(self):
        self.assert_verdict(self.net, (101, -101, 0), 2)
        self.assert_verdict(self.net, (101, -100, 0), 1)

    def test_possible(self):
        self.assert_possible(self.net, (10, -10, 0), 400, 400)
        self.assert_possible(self.net, (F(1, 3), F(-1, 3), 0), F(40, 3), F(2360, 3))
        self.assert_possible(self.net, (TINY, -TINY, 0), 40 * TINY, 800 - 40 * TINY)
        self.assert_possible(self.net, (0, 0, 0), 0, 800)
        self.assert_possible([], (0, 0, 0), 0, 0)

    def test_three_zones_with_three_denominators(self):
        calls = [sell(1, 10, 5), sell(2, 20, 5), buy(3, 50, 5)]
        self.assert_possible(calls, (F(1, 2), F(1, 3), F(-5, 6)), F(125, 3) - 5 - F(20, 3), 200 - 30)
        self.assert_verdict(calls, (F(1, 2), F(1, 3), F(-6, 7)), 1)

    def test_what_is_possible_at_the_very_ends(self):
        self.assert_possible(TRADE, (70, -70, 0), 2800, 0)
        self.assert_possible([sell(1, 10, 100), buy(2, 50, 100)], (100, -100, 0), 4000, 0)

    def test_the_net_exports_themselves(self):
        self.assert_possible(self.net, (20, -20, 0), 800, 0)
        self.assert_possible(EASED, (40, -60, 20), 3000, 0)
        self.assert_possible(TRADE + [line(700, 0, 0, 1)], (F(10, 7), F(-10, 7), 0), F(400, 7), 0)

    def test_others_of_the_same_worth(self):
        calls = [sell(1, 10, 30), sell(2, 10, 40), buy(3, 10, 50)]
        for point in ((0, 0, 0), (30, 20, -50), (10, 40, -50), (F(1, 7), F(1, 7), F(-2, 7))):
            self.assert_possible(calls, point, 0, 0)

    def test_worth_below_0(self):
        self.assert_possible([sell(1, 50, 9), buy(2, 10, 9)], (2, -2, 0), -80, 80)

    def test_within_a_zone(self):
        # Of what zone 1 gives up when it exports, the buyer is the first to go without.
        calls = [sell(1, 30, 4), buy(1, 20, 4), sell(1, 5, 4), buy(2, 25, 9)]
        self.assert_possible(calls, (0, 0, 0), 60, 20)
        self.assert_possible(calls, (2, -2, 0), 70, 10)
        self.assert_possible(calls, (4, -4, 0), 80, 0)
        self.assert_possible(calls, (8, -8, 0), 60, 20)
        self.assertEqual(last(*calls, CLEAR), flat(4, -4, 0, 80))

    def test_not_in_lowest_terms(self):
        for told in ((20, 2, -40, 4, 0, 5), (10, 1, -10, 1, 0, 10 ** 9), (10 ** 10, 10 ** 9, -10 ** 10, 10 ** 9, 0, 7),
                     (30, 3, -70, 7, 0, 1)):
            self.assertEqual(last(*self.net, (11,) + row(told)), [0] + flat(400, 400))
        self.assertEqual(last(*self.net, (11,) + row((20, 2, -40, 4, 1, 5))), [0, 1])
        self.assertEqual(last(*self.net, (11,) + row((42, 2, -84, 4, 0, 5))), [0, 2])
        self.assertEqual(last(*self.net, (11,) + row((-2, 2, 4, 4, 0, 5))), [0, 3])

    def test_numbers_far_above_2_to_the_63rd(self):
        calls = [sell(1, -1000000, 1000000), sell(2, 999999, 1000000), buy(3, 1000000, 1000000)]
        # Three denominators without a common divisor: what's over would be seen only in 27 digits.
        self.assert_verdict(calls, (TINY, F(1, 10 ** 9 - 1), F(-2, 10 ** 9 - 7)), 1)
        first, second = F(1, 31607), F(1, 31601)
        worth = 2000000 * first + second
        self.assert_possible(calls, (first, second, -first - second), worth, 2 * 10 ** 12 - worth)
        self.assertGreater((2 * 10 ** 12 - worth).numerator, 2 ** 63)


class Supports(unittest.TestCase):
    def assert_supporting(self, calls, *points):
        for point in points:
            self.assertEqual(last(*calls, supports(*point)), [0, 1], point)

    def assert_not_supporting(self, calls, *points):
        for point in points:
            self.assertEqual(last(*calls, supports(*point)), [0, 0], point)

    def test_neither_lines_nor_orders(self):
        self.assert_supporting([], (0, 0, 0), (5, 5, 5), (F(-1, 3), F(-1, 3), F(-1, 3)), (10 ** 12,) * 3)
        self.assert_not_supporting([], (0, 0, TINY), (0, TINY, 0), (TINY, 0, 0), (-TINY, 0, 0), (1, 2, 3))

    def test_by_orders_alone(self):
        net = [sell(1, 7, 4), buy(2, 30, 4)]
        self.assert_supporting(net, (7, 7, 7), (30, 30, 30), (F(37, 2),) * 3, (7 + TINY,) * 3, (30 - TINY,) * 3)
        self.assert_not_supporting(net, (7 - TINY,) * 3, (30 + TINY,) * 3, (0, 0, 0), (-7, -7, -7))

    def test_used_in_part_leaves_one_price(self):
        self.assert_supporting(TRADE, (10, 10, 10))
        self.assert_not_supporting(TRADE, (10 - TINY,) * 3, (10 + TINY,) * 3)

    def test_equal_prices_at_the_edge(self):
        net = [sell(1, 7, 4), sell(1, 7, 4), buy(2, 30, 4)]
        self.assert_supporting(net, (7, 7, 7))
        self.assert_not_supporting(net, (7 - TINY,) * 3, (7 + TINY,) * 3)

    def test_by_balance_alone(self):
        self.assert_not_supporting(TRADE, (10, 10, 11), (10, 10, 10 - TINY), (10, 50, 50))

    def test_a_line_that_binds(self):
        net = TRADE + [NARROW]
        self.assert_supporting(net, (10, 50, 50))
        # By a line alone, then by an order alone.
        self.assert_not_supporting(net, (10, 50, 50 - TINY), (10, 50, 50 + TINY), (10, 50, 10))
        self.assert_not_supporting(net, (10 + TINY, 50, 50), (10 - TINY, 50, 50), (10, 51, 51), (10, 49, 49))

    def test_a_full_line_that_is_not_in_the_way(self):
        net = [sell(1, 7, 4), buy(2, 30, 4), line(1000, 0, 0, 4)]
        self.assert_supporting(net, (7, 7, 7), (7, 30, 30), (7, 20, 20), (20, 20, 20), (30, 30, 30))
        self.assert_not_supporting(net, (20, 20 - TINY, 20 - TINY), (7, 20, 30), (7, 30 + TINY, 30 + TINY))

    def test_a_line_that_is_not_full_does_not_count(self):
        net = [sell(1, 7, 4), buy(2, 30, 4), line(1000, 0, 0, 5)]
        self.assert_supporting(net, (7, 7, 7), (30, 30, 30))
        self.assert_not_supporting(net, (7, 30, 30), (7, 7 + TINY, 7 + TINY))

    def test_a_line_full_at_nothing_exported(self):
        # Zone 2's price is in the middle, and zone 3's isn't below zone 1's.
        full = [line(1000, 0, -1000, 0)]
        self.assert_supporting(full, (5, 5, 5), (4, 5, 6), (-7, 0, 7))
        self.assert_not_supporting(full, (6, 5, 4), (5 + TINY, 5, 5 - TINY), (4, 5 + TINY, 6), (4, 5, 6 - TINY))
        net = full + [sell(1, 10, 5), buy(3, 60, 5)]
        self.assert_supporting(net, (0, 30, 60), (10, 35, 60), (0, 40, 80), (-10 ** 11, 0, 10 ** 11))
        self.assert_not_supporting(net, (10 + 2 * TINY, 35 + TINY, 60), (0, 30 - TINY, 60 - 2 * TINY), (0, 31, 60))

    def test_two_full_lines(self):
        one_way = [line(1000, 0, 0, 0), line(0, 1000, 0, 0)]
        self.assert_supporting(one_way, (0, 0, 0), (1, 2, 3), (2, 1, 3), (3, 3, 3), (-9, 3, 3), (3, -9, 3))
        self.assert_not_supporting(one_way, (3 + TINY, 0, 3), (0, 3 + TINY, 3), (3, 3, 2))

    def test_one_straight_way(self):
        self.assert_supporting(ZONE_1_CUT_OFF, (77, 5, 5), (-77, 5, 5))
        self.assert_not_supporting(ZONE_1_CUT_OFF, (5, 5, 6), (5, 5, 5 - TINY))
        self.assert_supporting(ZONE_1_CUT_OFF + [line(0, 1000, 0, 0)], (77, 5, 5), (-77, 4, 5))
        self.assert_not_supporting(ZONE_1_CUT_OFF + [line(0, 1000, 0, 0)], (5, 5 + TINY, 5))

    def test_nothing_but_0_is_let(self):
        self.assert_supporting(SHUT, (1, 2, 3), (3, 2, 1), (10 ** 12, -10 ** 12, 0), (-TINY, TINY, F(2, 7)))
        net = SHUT + [sell(1, 5, 1), buy(2, 9, 1)]
        self.assert_supporting(net, (5, 9, 77), (-100, 100, 0))
        self.assert_not_supporting(net, (5 + TINY, 9, 0), (5, 9 - TINY, 0))

    def test_not_in_lowest_terms(self):
        self.assertEqual(last(*TRADE, (12,) + row((20, 2, 30, 3, 10 ** 10, 10 ** 9))), [0, 1])
        self.assertEqual(last(*TRADE, (12,) + row((20, 2, 30, 3, 10 ** 10 + 1, 10 ** 9))), [0, 0])

    def test_the_prices_themselves(self):
        for net in (TRADE, EASED, TRADE + [NARROW], SHUT, ZONE_1_CUT_OFF + TRADE, [buy(1, 50, 10)]):
            prices = ask(OPEN, *net, PRICES)[-1]
            self.assertEqual(last(*net, (12,) + row(prices[1:])), [0, 1])


class Without(unittest.TestCase):
    def test_one_that_is_not_there(self):
        told = ask(OPEN, without(1), without(4), NARROW, without(1), without(2), NARROW, without(2), without(3), NARROW,
                   without(3), without(4), NARROW, without(4))
        self.assertEqual(told, [[0], [-3], [-3], [0, 1], flat(0), [-3], [0, 2], flat(0), [-3], [0, 3], flat(0), [-3],
                                [0, 4], flat(0)])

    def test_one_that_binds(self):
        self.assertEqual(last(*TRADE, NARROW, without(1)), flat(2000))
        self.assertEqual(last(*TRADE, line(1000, 0, 0, 0), without(1)), flat(2800))
        self.assertEqual(last(*TRADE, line(700, 0, 0, 1), without(1)), flat(F(19200, 7)))

    def test_one_that_does_not(self):
        self.assertEqual(last(*TRADE, line(1000, 0, 0, 71), without(1)), flat(0))
        self.assertEqual(last(*TRADE, line(1000, 0, 0, 70), without(1)), flat(0))
        self.assertEqual(last(*TRADE, line(5, 5, 5, 0), without(1)), flat(0))

    def test_each_of_several(self):
        # Without the first zone 1 exports 30, without the third still 20.
        lines = [NARROW, line(0, -1000, 0, 30), line(1000, 0, 0, 50), line(0, 0, 0, 0)]
        told = ask(OPEN, *TRADE, *lines, without(1), without(2), without(3), without(4))[-4:]
        self.assertEqual(told, [flat(400), flat(0), flat(0), flat(0)])
        told = ask(OPEN, *TRADE, *lines[::-1], without(1), without(2), without(3), without(4))[-4:]
        self.assertEqual(told, [flat(0), flat(0), flat(0), flat(400)])

    def test_two_that_are_the_same(self):
        told = ask(OPEN, *TRADE, NARROW, NARROW, without(1), without(2))[-2:]
        self.assertEqual(told, [flat(0), flat(0)])

    def test_two_that_each_cost_something(self):
        # Zone 1 exports at most 2, zone 2 at most 3, worth 170.
        lines = [line(1000, 0, 0, 2), line(0, 1000, 0, 3)]
        orders = [sell(1, 10, 10), sell(2, 20, 10), buy(3, 50, 9)]
        told = ask(OPEN, *orders, *lines, without(1), without(2))[-2:]
        self.assertEqual(told, [flat(40 * 9 - 170), flat(30 * 4)])

    def test_the_net_is_as_it_was(self):
        reports = [BOOK, CLEAR, PRICES, LOADS, CORNERS]
        net = [OPEN, *TRADE, NARROW, line(0, -1000, 0, 30)]
        told = ask(*net, *reports, without(1), *reports, without(2), *reports, rooms(2, 7), line(0, 0, 0, 0))
        self.assertEqual(told[5:10], told[11:16])
        self.assertEqual(told[5:10], told[17:22])
        self.assertEqual(told[22:], [[0], [0, 3]])


class PriceRange(unittest.TestCase):
    def test_a_zone_without_orders(self):
        for zone in (1, 2, 3):
            self.assertEqual(last(price_range(zone)), [0, 0, 0, 0, 0])
        self.assertEqual(last(*TRADE, price_range(3)), [0, 0, 0, 0, 0])

    def test_all_used(self):
        net = [sell(1, 7, 4), sell(1, 3, 4), buy(2, 30, 8)]
        self.assertEqual(last(*net, price_range(1)), [0, 1, 7, 0, 0])
        self.assertEqual(last(buy(3, 50, 10), buy(3, 60, 10), price_range(3)), [0, 1, 60, 0, 0])

    def test_none_used(self):
        self.assertEqual(last(sell(1, 7, 4), sell(1, 3, 4), price_range(1)), [0, 0, 0, 1, 3])
        self.assertEqual(last(sell(1, 7, 8), buy(2, 30, 4), buy(2, 20, 4), price_range(2)), [0, 0, 0, 1, 20])

    def test_one_used_in_part(self):
        self.assertEqual(last(*TRADE, price_range(1)), [0, 1, 10, 1, 10])
        self.assertEqual(last(*TRADE, NARROW, price_range(2)), [0, 1, 50, 1, 50])
        self.assertEqual(last(*TRADE, line(1, 0, 0, 0), line(-7, 0, 0, 0), price_range(1)), [0, 0, 0, 1, 10])

    def test_between_two_orders(self):
        net = [sell(1, 20, 5), sell(1, 10, 5), buy(2, 40, 5), sell(3, 15, 3), buy(3, 35, 3)]
        self.assertEqual(last(*net, price_range(1)), [0, 1, 10, 1, 20])
        self.assertEqual(last(*net, price_range(3)), [0, 1, 15, 1, 35])

    def test_equal_prices(self):
        self.assertEqual(last(sell(1, 10, 5), sell(1, 10, 5), buy(2, 50, 5), price_range(1)), [0, 1, 10, 1, 10])
        self.assertEqual(last(sell(1, 10, 5), sell(1, 10, 5), buy(2, 50, 7), price_range(1)), [0, 1, 10, 1, 10])
        self.assertEqual(last(sell(3, 10, 5), buy(3, 10, 5), price_range(3)), [0, 1, 10, 1, 10])

    def test_prices_of_0_and_below(self):
        self.assertEqual(last(sell(1, 0, 5), buy(2, 3, 5), price_range(1)), [0, 1, 0, 0, 0])
        self.assertEqual(last(sell(1, 0, 5), price_range(1)), [0, 0, 0, 1, 0])
        self.assertEqual(last(sell(1, -9, 5), sell(1, -2, 5), buy(2, 3, 5), price_range(1)), [0, 1, -9, 1, -2])


class Plain(unittest.TestCase):
    def test_nothing_is_exported(self):
        self.assertEqual(last(PLAIN), [0, 1])
        self.assertEqual(last(*TRADE, line(1000, 0, 0, 0), PLAIN), [0, 1])

    def test_one_price(self):
        self.assertEqual(last(*TRADE, PLAIN), [0, 1])

    def test_from_the_lower_price_to_the_higher(self):
        self.assertEqual(last(*TRADE, NARROW, PLAIN), [0, 1])

    def test_a_zone_that_exports_at_a_higher_price_than_another_imports(self):
        self.assertEqual(last(*EASED, PLAIN), [0, 0])

    def test_in_each_order_of_zones(self):
        for a, b, c in ((1, 2, 3), (1, 3, 2), (2, 1, 3), (2, 3, 1), (3, 1, 2), (3, 2, 1)):
            factors = [0, 0, 0]
            factors[a - 1], factors[c - 1] = 1000, -1000
            net = [sell(a, 10, 100), sell(c, 100, 100), buy(b, 90, 60), line(*factors, 20)]
            self.assertEqual(last(*net, PLAIN), [0, 0])
            self.assertEqual(last(*net[:3], PLAIN), [0, 1])

    def test_it_imports_at_a_lower_price_than_another_exports(self):
        # Two units from zone 1 to zone 2 let one more go from zone 1 to zone 3.
        net = [sell(1, 50, 100), buy(2, 40, 100), buy(3, 90, 100), line(0, 500, -1000, 10)]
        told = ask(OPEN, *net, CLEAR, PRICES, PLAIN)[-3:]
        self.assertEqual(told, [flat(100, -60, -40, 1000), flat(F(170, 3), 40, 90), [0, 0]])

    def test_a_zone_that_does_neither_does_not_count(self):
        net = [sell(1, 10, 10), buy(2, 50, 10), line(0, 0, 1000, 0), line(0, 0, -1000, 0)]
        self.assertEqual(last(*net, buy(3, 9, 1), PLAIN), [0, 1])
        self.assertEqual(last(*net, sell(3, -9, 1), PLAIN), [0, 1])


class Alone(unittest.TestCase):
    def test_nothing_is_there(self):
        self.assertEqual(last(ALONE), [0, 0, 0, 0, 0, 1])

    def test_sellers_alone_and_buyers_alone(self):
        self.assertEqual(last(*TRADE, ALONE), [0, 0, 0, 0, 2800, 1])
        self.assertEqual(last(sell(1, -20, 10), buy(2, -5, 4), ALONE), [0, 0, 0, 0, 60, 1])
        self.assertEqual(last(*TRADE, line(700, 0, 0, 1), ALONE), [0, 0, 0, 0, 400, 7])

    def test_zones_with_both(self):
        orders = [sell(2, 10, 30), buy(2, 40, 20), sell(2, 5, 8)]
        self.assertEqual(last(*orders, ALONE), [0, 0, 640, 0, 0, 1])
        self.assertEqual(last(*orders, sell(1, 30, 5), buy(1, 31, 2), buy(3, 50, 9), ALONE),
                         [0, 2, 640, 0, 40 * 9 + 20 * 2, 1])

    def test_each_zone_in_turn(self):
        orders = []
        for zone, price in ((3, 13), (1, 11), (2, 12)):
            orders += [sell(zone, 10, 1), buy(zone, price, 1)]
        self.assertEqual(last(*orders, ALONE), [0, 1, 2, 3, 0, 1])

    def test_those_who_would_lose_stay_out(self):
        self.assertEqual(last(sell(1, 40, 9), buy(1, 10, 9), ALONE), [0, 0, 0, 0, 0, 1])
        self.assertEqual(last(sell(1, 10, 9), buy(1, 40, 3), buy(1, 20, 3), buy(1, 5, 9), ALONE), [0, 120, 0, 0, 0, 1])

    def test_equal_prices(self):
        self.assertEqual(last(sell(1, 10, 5), buy(1, 10, 5), ALONE), [0, 0, 0, 0, 0, 1])
        self.assertEqual(last(buy(1, 10, 5), sell(1, 10, 5), buy(2, 10, 5), ALONE), [0, 0, 0, 0, 0, 1])

    def test_prices_below_0(self):
        self.assertEqual(last(sell(3, -20, 9), buy(3, -5, 4), ALONE), [0, 0, 0, 60, 0, 1])

    def test_lines_do_not_count_within_a_zone(self):
        self.assertEqual(last(*SHUT, sell(3, 20, 9), buy(3, 25, 4), *TRADE, ALONE), [0, 0, 0, 20, 0, 1])


class Book(unittest.TestCase):
    def test_nothing_is_there(self):
        self.assertEqual(last(BOOK), [0, 0])

    def test_without_lines(self):
        self.assertEqual(last(sell(3, -5, 7), buy(1, 9, 2), BOOK), [0, 0, 1, 3, 0, -5, 7, 2, 1, 1, 9, 2])

    def test_without_orders(self):
        self.assertEqual(last(line(1, -2, 3, 4), line(1000, 0, -1000, 1000000), BOOK),
                         [0, 2, 1, -2, 3, 4, 1000, 0, -1000, 1000000])

    def test_lines_go_ahead_of_orders(self):
        self.assertEqual(last(sell(3, -5, 7), line(1, -2, 3, 4), buy(2, 9, 2), line(5, 6, 7, 0), BOOK),
                         [0, 2, 1, -2, 3, 4, 5, 6, 7, 0, 1, 3, 0, -5, 7, 2, 2, 1, 9, 2])

    def test_after_rooms_and_cancel(self):
        told = ask(OPEN, line(1, 2, 3, 4), line(5, 6, 7, 8), sell(1, 1, 1), buy(2, 2, 2), sell(3, 3, 3), rooms(1, 9),
                   cancel(2), BOOK, rooms(2, 0), cancel(3), buy(1, 4, 4), BOOK)
        self.assertEqual(told[8], [0, 2, 1, 2, 3, 9, 5, 6, 7, 8, 1, 1, 0, 1, 1, 3, 3, 0, 3, 3])
        self.assertEqual(told[12], [0, 2, 1, 2, 3, 9, 5, 6, 7, 0, 1, 1, 0, 1, 1, 4, 1, 1, 4, 4])

    def test_after_a_second_open(self):
        told = ask(OPEN, line(1, 2, 3, 4), sell(1, 1, 1), BOOK, OPEN, BOOK, buy(3, 2, 2), BOOK)
        self.assertEqual(told[3], [0, 1, 1, 2, 3, 4, 1, 1, 0, 1, 1])
        self.assertEqual(told[5], [0, 0])
        self.assertEqual(told[7], [0, 0, 1, 3, 1, 2, 2])

    def test_full(self):
        net = [line(k, k, k, k) for k in range(1, 5)] + [sell(1, k, k) for k in range(1, 11)]
        told = [0, 4]
        for k in range(1, 5):
            told += [k] * 4
        for k in range(1, 11):
            told += [k, 1, 0, k, k]
        self.assertEqual(last(*net, BOOK), told)

    def test_in_order_of_entry_and_not_of_price(self):
        told = last(sell(1, 9, 1), sell(1, 3, 1), sell(1, 6, 1), BOOK)
        self.assertEqual([told[k] for k in (5, 10, 15)], [9, 3, 6])


if __name__ == "__main__":
    unittest.main()
