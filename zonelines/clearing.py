"""A net that is cleared: its ladders, its net exports, and what goes with them."""

from zonelines.exports import net_exports, worth_of
from zonelines.ladder import ladders_of
from zonelines.pricing import are_supporting, supporting_prices


class Clearing:
    """The net exports of these lines and orders."""

    def __init__(self, lines, orders):
        self.lines = lines
        self.orders = orders
        self.ladders = ladders_of(orders)
        self.exports = net_exports(lines, self.ladders)

    def gain(self):
        """What the net exports are worth, times their bottom."""
        return worth_of(self.exports, self.ladders)

    def prices(self):
        return supporting_prices(self.exports, self.lines, self.ladders)

    def is_supported(self, prices):
        return are_supporting(prices, self.exports, self.lines, self.ladders)

    def shares(self):
        """Each order's share times the net exports' bottom, in order of entry."""
        found = {}
        for k, ladder in enumerate(self.ladders):
            found.update(ladder.shares(self.exports[k], self.exports[3]))
        return [found[order.number] for order in self.orders]

    def money(self):
        """What those who buy pay, what those who sell get, and the rent, then the bottom of all three."""
        prices = self.prices()
        paid = 0
        got = 0
        for order, share in zip(self.orders, self.shares()):
            if order.buys:
                paid += prices[order.zone - 1] * share
            else:
                got += prices[order.zone - 1] * share
        rent = -sum([price * export for price, export in zip(prices[:3], self.exports[:3])])
        return (paid, got, rent, prices[3] * self.exports[3])

    def price_span(self, zone):
        """The greatest price of what is used of the zone's orders and the least of what isn't; None for none."""
        ladder = self.ladders[zone - 1]
        export = self.exports[zone - 1]
        bottom = self.exports[3]
        return (ladder.least_price(export, bottom), ladder.greatest_price(export, bottom))

    def is_plain(self):
        """Whether no zone that exports has a higher price than one that imports."""
        pairs = list(zip(self.prices()[:3], self.exports[:3]))
        exporting = [price for price, export in pairs if export > 0]
        importing = [price for price, export in pairs if export < 0]
        # Exports are balanced, so where one list is empty, the other is too.
        return len(exporting) == 0 or max(exporting) <= min(importing)
