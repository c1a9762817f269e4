"""A zone's orders by price, and what is used of them at an export.

An export is handed in as a top over a bottom above 0; what is answered for it is
meant over the same bottom, so that all stays whole.
"""


class Ladder:
    """One zone's orders, the least price first, of equal ones the earlier first."""

    def __init__(self, orders, zone):
        own = [order for order in orders if order.zone == zone]
        self.orders = sorted(own, key=lambda order: (order.price, order.number))
        self.least_export = -sum([order.amount for order in own if order.buys])
        self.greatest_export = sum([order.amount for order in own if not order.buys])
        self.fully_bought = sum([order.price * order.amount for order in own if order.buys])

    def steps(self):
        """The exports at which the ladder goes from one order to the next, its two ends among them."""
        export = self.least_export
        exports = [export]
        for order in self.orders:
            export += order.amount
            exports.append(export)
        return exports

    def reaches(self, top, bottom):
        """Whether the export is possible for the zone."""
        return self.least_export * bottom <= top <= self.greatest_export * bottom

    def used(self, top, bottom):
        """How much of each order is used, in the ladder's order, times bottom."""
        left = top - self.least_export * bottom
        amounts = []
        for order in self.orders:
            amount = min(left, order.amount * bottom)
            amounts.append(amount)
            left -= amount
        return amounts

    def worth(self, top, bottom):
        """What the orders are worth at the export, times bottom."""
        total = self.fully_bought * bottom
        # A unit used costs its price on either side: a seller is paid it, a buyer goes without it.
        for order, amount in zip(self.orders, self.used(top, bottom)):
            total -= order.price * amount
        return total

    def shares(self, top, bottom):
        """Each order's number with its share times bottom."""
        found = {}
        for order, amount in zip(self.orders, self.used(top, bottom)):
            found[order.number] = order.amount * bottom - amount if order.buys else amount
        return found

    def least_price(self, top, bottom):
        """The greatest price of the orders of which something is used, or None."""
        pairs = list(zip(self.orders, self.used(top, bottom)))
        return max([order.price for order, amount in pairs if amount > 0], default=None)

    def greatest_price(self, top, bottom):
        """The least price of the orders of which something isn't used, or None."""
        pairs = list(zip(self.orders, self.used(top, bottom)))
        return min([order.price for order, amount in pairs if amount < order.amount * bottom], default=None)


def ladders_of(orders):
    """The ladders of zones 1, 2 and 3."""
    return [Ladder(orders, zone) for zone in range(1, 4)]
