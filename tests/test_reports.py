"""clear, prices, shares and loads on nets small enough to be worked out by hand."""

import unittest
from fractions import Fraction as F

from helper import CLEAR, LOADS, OPEN, PRICES, SHARES, ask, buy, cancel, flat, last, line, sell


def reports(*calls):
    return ask(OPEN, *calls, CLEAR, PRICES, SHARES, LOADS)[-4:]


class Reports(unittest.TestCase):
    def assert_reports(self, calls, exports, worth, prices, shares, loads):
        """loads: each line's load and room."""
        told = reports(*calls)
        self.assertEqual(told[0], flat(*exports, worth))
        self.assertEqual(told[1], flat(*prices))
        self.assertEqual(told[2], flat(*shares))
        expected = [0]
        for load, room in loads:
            expected += flat(load)[1:] + [room]
        self.assertEqual(told[3], expected)


class Bare(Reports):
    def test_neither_lines_nor_orders(self):
        self.assertEqual(reports(), [[0, 0, 1, 0, 1, 0, 1, 0, 1], [0, 0, 1, 0, 1, 0, 1], [0], [0]])

    def test_lines_without_orders(self):
        lines = [line(1000, 0, 0, 0), line(0, 500, -1000, 6)]
        self.assert_reports(lines, (0, 0, 0), 0, (0, 0, 0), (), [(0, 0), (0, 6)])

    def test_orders_without_lines(self):
        self.assert_reports([sell(1, 10, 100), buy(2, 50, 70)], (70, -70, 0), 2800, (10, 10, 10), (70, 70), [])

    def test_buyers_alone(self):
        self.assert_reports([buy(1, 50, 10)], (0, 0, 0), 0, (50, 50, 50), (0,), [])

    def test_sellers_alone(self):
        self.assert_reports([sell(3, 50, 10)], (0, 0, 0), 0, (0, 0, 0), (0,), [])

    def test_one_zone_trades_within_itself(self):
        self.assert_reports([sell(2, 10, 30), buy(2, 40, 20), sell(2, 5, 8)], (0, 0, 0), 640, (10, 10, 10),
                            (12, 20, 8), [])

    def test_three_zones(self):
        orders = [sell(1, 10, 50), sell(2, 20, 50), buy(3, 60, 30), buy(2, 30, 40), buy(1, 15, 10)]
        self.assert_reports(orders, (50, -20, -30), 60 * 30 + 30 * 40 - 500 - 400, (20, 20, 20), (50, 20, 30, 40, 0), [])


class OneLine(Reports):
    trade = [sell(1, 10, 100), buy(2, 50, 70)]

    def test_it_binds(self):
        self.assert_reports(self.trade + [line(1000, 0, 0, 20)], (20, -20, 0), 800, (10, 50, 50), (20, 20), [(20, 20)])

    def test_it_is_loaded_just_to_its_room_without_being_in_the_way(self):
        self.assert_reports(self.trade + [line(1000, 0, 0, 70)], (70, -70, 0), 2800, (10, 10, 10), (70, 70), [(70, 70)])

    def test_room_of_0(self):
        self.assert_reports(self.trade + [line(1000, 0, 0, 0)], (0, 0, 0), 0, (0, 50, 50), (0, 0), [(0, 0)])

    def test_room_of_0_lets_the_other_way(self):
        self.assert_reports(self.trade + [line(-1000, 0, 0, 0)], (70, -70, 0), 2800, (10, 10, 10), (70, 70), [(-70, 0)])

    def test_factors_all_equal(self):
        for factor in (1000, -1000, 7, 0):
            self.assert_reports(self.trade + [line(factor, factor, factor, 0)], (70, -70, 0), 2800, (10, 10, 10),
                                (70, 70), [(0, 0)])

    def test_it_binds_at_a_fraction(self):
        self.assert_reports(self.trade + [line(700, 0, 0, 1)], (F(10, 7), F(-10, 7), 0), F(400, 7), (10, 50, 50),
                            (F(10, 7), F(10, 7)), [(1, 1)])

    def test_a_load_that_is_a_fraction(self):
        self.assert_reports(self.trade + [line(7, 0, 3, 9)], (70, -70, 0), 2800, (10, 10, 10), (70, 70),
                            [(F(49, 100), 9)])

    def test_a_zone_in_between_eases_the_line(self):
        # Each unit that goes from 1 to 2 takes 1000, each that goes from 3 to 2 gives 1000 back.
        orders = [sell(1, 10, 100), sell(3, 100, 100), buy(2, 90, 60)]
        self.assert_reports(orders + [line(1000, 0, -1000, 20)], (40, -60, 20), 60 * 90 - 400 - 2000, (10, 55, 100),
                            (40, 20, 60), [(20, 20)])

    def test_a_price_that_is_a_fraction(self):
        orders = [sell(1, 10, 100), buy(3, 50, 100)]
        self.assert_reports(orders + [line(300, 100, 0, 3)], (10, 0, -10), 400, (10, F(110, 3), 50), (10, 10), [(3, 3)])


class MoreLines(Reports):
    def test_two_lines_that_let_one_way_only(self):
        # Zones 1 and 2 can't export.
        one_way = [line(1000, 0, 0, 0), line(0, 1000, 0, 0)]
        self.assert_reports(one_way + [sell(1, 10, 5), buy(2, 30, 5), buy(3, 40, 5)], (0, 0, 0), 0, (0, 30, 40),
                            (0, 0, 0), [(0, 0), (0, 0)])
        self.assert_reports(one_way + [sell(3, 10, 9), buy(2, 30, 5), buy(1, 20, 7)], (-4, -5, 9), 140, (20, 20, 20),
                            (9, 5, 4), [(-4, 0), (-5, 0)])

    def test_two_lines_with_one_straight_way_between_them(self):
        # Zones 1 and 2 export the same.
        between = [line(1000, -1000, 0, 0), line(-1000, 1000, 0, 0)]
        self.assert_reports(between + [sell(1, 10, 5), sell(2, 30, 8), buy(3, 25, 100)], (5, 5, -10), 50, (20, 30, 25),
                            (5, 5, 10), [(0, 0), (0, 0)])

    def test_a_zone_cut_off(self):
        cut = [line(1000, 0, 0, 0), line(-1000, 0, 0, 0)]
        self.assert_reports(cut + [buy(1, 90, 5), sell(2, 10, 8), buy(3, 25, 6)], (0, 6, -6), 90, (90, 10, 10),
                            (0, 6, 6), [(0, 0), (0, 0)])

    def test_a_zone_cut_off_and_one_way_between_the_others(self):
        cut = [line(1000, 0, 0, 0), line(-1000, 0, 0, 0), line(0, 1000, 0, 0)]
        self.assert_reports(cut + [buy(1, 5, 5), sell(2, 10, 8), buy(3, 40, 6)], (0, 0, 0), 0, (5, 0, 40), (0, 0, 0),
                            [(0, 0)] * 3)

    def test_nothing_but_0_is_let(self):
        shut = [line(1000, 0, 0, 0), line(0, 1000, 0, 0), line(0, 0, 1000, 0)]
        self.assert_reports(shut, (0, 0, 0), 0, (0, 0, 0), (), [(0, 0)] * 3)
        self.assert_reports(shut + [buy(1, 5, 2), sell(2, -7, 3)], (0, 0, 0), 0, (5, -7, 0), (0, 0), [(0, 0)] * 3)

    def test_four_lines_that_bind_at_fractions(self):
        lines = [line(300, 0, 0, 1), line(0, 600, 0, 1), line(0, 0, -200, 1), line(450, -300, 0, 1)]
        orders = [sell(1, 10, 100), sell(2, 20, 100), buy(3, 50, 100)]
        self.assert_reports(lines + orders, (F(10, 3), F(5, 3), -5), F(550, 3), (10, 20, 50), (F(10, 3), F(5, 3), 5),
                            [(1, 1)] * 4)

    def test_two_lines_that_cross_at_a_fraction(self):
        lines = [line(700, 300, 0, 1), line(200, 900, 0, 1), line(1000, 1000, 0, 9), line(-1000, -1000, -1000, 0)]
        orders = [sell(1, 10, 100), sell(2, 20, 100), buy(3, 50, 100)]
        # 7a + 3b = 10 and 2a + 9b = 10 at a = 60/57, b = 50/57.
        self.assert_reports(lines + orders, (F(20, 19), F(50, 57), F(-110, 57)), F(40 * 60 + 30 * 50, 57), (10, 20, 50),
                            (F(20, 19), F(50, 57), F(110, 57)), [(1, 1), (1, 1), (F(110, 57), 9), (0, 0)])

    def test_a_numerator_above_2_to_the_63rd(self):
        lines = [line(949, -224, -947, 521225), line(-735, 965, -938, 712302)]
        orders = [sell(1, -999999, 1000000), sell(2, -999998, 1000000), buy(3, 1000000, 1000000),
                  buy(3, 999999, 1000000), sell(1, -1000000, 1000000), sell(2, -1000000, 1000000),
                  buy(1, 1000000, 1000000), buy(2, 1000000, 1000000)]
        # 1896a + 723b = 521225000 and 203a + 1903b = 712302000; 1896 * 1903 - 723 * 203 = 3461319.
        first = F(521225000 * 1903 - 712302000 * 723, 3461319)
        second = F(712302000 * 1896 - 521225000 * 203, 3461319)
        shares = (first, second, first + second, 0, 1000000, 1000000, 1000000, 1000000)
        worth = 1000000 * (4000000 + first + second) + 999999 * first + 999998 * second
        told = reports(*lines, *orders)
        self.assertEqual(told[0], flat(first, second, -first - second, worth))
        self.assertGreater(told[0][7], 2 ** 63)
        self.assertEqual(told[2], flat(*shares))
        self.assertEqual(told[3], [0, 521225, 1, 521225, 712302, 1, 712302])


class EqualPrices(Reports):
    def test_the_earlier_seller_is_used_first(self):
        self.assertEqual(last(sell(1, 10, 5), sell(1, 10, 5), buy(2, 50, 7), SHARES), flat(5, 2, 7))

    def test_the_later_buyer_is_served_first(self):
        self.assertEqual(last(buy(2, 50, 5), buy(2, 50, 5), sell(1, 10, 7), SHARES), flat(2, 5, 7))

    def test_a_seller_and_a_buyer(self):
        self.assertEqual(last(sell(1, 10, 5), buy(1, 10, 5), SHARES), flat(5, 5))
        self.assertEqual(last(buy(1, 10, 5), sell(1, 10, 5), SHARES), flat(0, 0))

    def test_a_greater_price_entered_earlier_is_used_later(self):
        self.assertEqual(last(sell(1, 11, 5), sell(1, 10, 5), buy(2, 50, 7), SHARES), flat(2, 5, 7))
        self.assertEqual(last(buy(2, 50, 5), buy(2, 49, 5), sell(1, 10, 7), SHARES), flat(5, 2, 7))

    def test_by_number_also_after_a_cancel(self):
        told = last(sell(1, 10, 9), sell(1, 10, 5), cancel(1), sell(1, 10, 5), buy(2, 50, 7), SHARES)
        self.assertEqual(told, flat(5, 2, 7))


class EqualWorth(Reports):
    def test_zone_1_exports_most_then_zone_2(self):
        self.assertEqual(last(sell(1, 10, 30), sell(2, 10, 40), buy(3, 10, 50), CLEAR), flat(30, 20, -50, 0))
        self.assertEqual(last(sell(1, 10, 30), sell(2, 10, 40), buy(3, 10, 90), CLEAR), flat(30, 40, -70, 0))
        self.assertEqual(last(sell(2, 10, 40), sell(3, 10, 40), buy(1, 20, 50), CLEAR), flat(-50, 40, 10, 500))

    def test_zone_1_rather_imports_nothing(self):
        self.assertEqual(last(buy(1, 10, 30), sell(2, 10, 40), CLEAR), flat(0, 0, 0, 0))

    def test_zone_2_rather_imports_nothing(self):
        self.assertEqual(last(buy(2, 10, 30), sell(3, 10, 40), CLEAR), flat(0, 0, 0, 0))
        self.assertEqual(last(buy(2, 10, 30), sell(1, 10, 40), buy(3, 10, 30), CLEAR), flat(40, -10, -30, 0))

    def test_up_to_a_line(self):
        told = last(sell(1, 10, 30), sell(2, 10, 40), buy(3, 10, 50), line(300, 0, 0, 2), line(0, 0, -100, 1), CLEAR)
        self.assertEqual(told, flat(F(20, 3), F(10, 3), -10, 0))

    def test_zone_1_exports_more_though_zone_2_then_must_import(self):
        told = last(sell(1, 10, 30), buy(2, 10, 30), sell(2, 10, 5), CLEAR)
        self.assertEqual(told, flat(30, -30, 0, 0))


class BelowZero(Reports):
    def test_sellers_who_pay(self):
        self.assert_reports([sell(1, -20, 10), buy(2, -5, 4)], (4, -4, 0), 60, (-20, -20, -20), (4, 4), [])

    def test_buyers_who_must_be_paid_too_much(self):
        self.assert_reports([sell(1, -5, 10), buy(2, -20, 4)], (0, 0, 0), 0, (-5, -5, -5), (0, 0), [])

    def test_beyond_a_line(self):
        self.assert_reports([sell(1, -20, 10), buy(2, -5, 4), line(500, -500, 0, 3)], (3, -3, 0), 45,
                            (-20, -5, F(-25, 2)), (3, 3), [(3, 3)])


class NearestToZero(unittest.TestCase):
    def test_a_stretch_above_0(self):
        self.assertEqual(last(sell(1, 10, 4), buy(2, 5, 4), PRICES), flat(5, 5, 5))

    def test_a_stretch_below_0(self):
        self.assertEqual(last(sell(1, -5, 4), buy(2, -10, 4), PRICES), flat(-5, -5, -5))

    def test_a_stretch_around_0(self):
        self.assertEqual(last(sell(1, 5, 4), buy(2, -10, 4), PRICES), flat(0, 0, 0))

    def test_sold_out(self):
        self.assertEqual(last(sell(1, 7, 4), buy(2, 30, 4), PRICES), flat(7, 7, 7))

    def test_zone_1_goes_ahead_of_zone_2(self):
        # Full: zone 1's price and zone 3's are on either side of zone 2's.
        lines = [line(1000, 0, -1000, 0)]
        orders = [sell(1, 10, 5), buy(3, 60, 5)]
        self.assertEqual(last(*lines, *orders, PRICES), flat(0, 30, 60))
        self.assertEqual(last(*lines, *orders, buy(1, -20, 1), PRICES), flat(0, 30, 60))
        self.assertEqual(last(*lines, *orders, buy(1, 4, 1), PRICES), flat(4, 32, 60))

    def test_zone_2_goes_ahead_of_zone_3(self):
        # Full: zone 1's price and zone 2's are anything, and zone 3's with them.
        lines = [line(0, 1000, -1000, 0), line(0, -1000, 1000, 0)]
        self.assertEqual(last(*lines, buy(1, 10, 5), PRICES), flat(10, 0, 20))
        self.assertEqual(last(*lines, buy(1, 10, 5), sell(2, -6, 3), PRICES), flat(10, -6, 26))
        self.assertEqual(last(*lines, buy(1, 10, 5), sell(3, 12, 3), PRICES), flat(10, 8, 12))

    def test_zones_without_orders_follow_the_lines(self):
        self.assertEqual(last(buy(2, 9, 1), PRICES), flat(9, 9, 9))
        self.assertEqual(last(buy(2, 9, 1), line(-1000, 0, 0, 0), PRICES), flat(9, 9, 9))
        self.assertEqual(last(buy(2, 9, 1), line(1000, 0, 0, 0), PRICES), flat(0, 9, 9))


if __name__ == "__main__":
    unittest.main()
