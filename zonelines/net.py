"""A net: its lines and its orders."""

MOST_LINES = 4
MOST_ORDERS = 10


class Line:
    """A critical line: how much of each zone's export loads it, in thousandths, and its room."""

    def __init__(self, factors, room):
        self.factors = factors
        self.room = room


class Order:
    """An order of one zone, which buys or else sells."""

    def __init__(self, number, zone, buys, price, amount):
        self.number = number
        self.zone = zone
        self.buys = buys
        self.price = price
        self.amount = amount


class Net:
    """Lines and orders as they came in, and the last number that was given to an order."""

    def __init__(self):
        self.lines = []
        self.orders = []
        self.last_number = 0

    def has_all_lines(self):
        return len(self.lines) >= MOST_LINES

    def has_all_orders(self):
        return len(self.orders) >= MOST_ORDERS

    def has_line(self, number):
        return number <= len(self.lines)

    def has_order(self, number):
        return any([order.number == number for order in self.orders])

    def add_line(self, factors, room):
        self.lines.append(Line(factors, room))
        return len(self.lines)

    def set_room(self, number, room):
        line = self.lines[number - 1]
        line.room = room

    def add_order(self, zone, buys, price, amount):
        # A cancelled order's number isn't given again, so the count of orders wouldn't do.
        self.last_number += 1
        self.orders.append(Order(self.last_number, zone, buys, price, amount))
        return self.last_number

    def take_out(self, number):
        self.orders = [order for order in self.orders if order.number != number]
