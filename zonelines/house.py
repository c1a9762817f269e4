"""The house: answers calls on one net, one behind another."""

from zonelines.exports import net_exports, worth_of
from zonelines.ladder import ladders_of
from zonelines.layout import call_end, is_well_formed
from zonelines.net import Net
from zonelines.pricing import supporting_prices
from zonelines.ratio import lowest

MALFORMED = -1
NO_NET = -2
NOT_THERE = -3
FULL = -4

NEW_NET = 0


def point_answer(point):
    """Three fractions over one bottom, each in lowest terms."""
    answer = []
    for top in point[:3]:
        answer.extend(lowest(top, point[3]))
    return answer


def line_call(net, numbers):
    if net.has_all_lines():
        return [FULL]
    return [0, net.add_line(numbers[:3], numbers[3])]


def rooms_call(net, numbers):
    if not net.has_line(numbers[0]):
        return [NOT_THERE]
    net.set_room(numbers[0], numbers[1])
    return [0]


def order_call(net, numbers):
    if net.has_all_orders():
        return [FULL]
    zone, side, price, amount = numbers
    return [0, net.add_order(zone, side == 1, price, amount)]


def cancel_call(net, numbers):
    if not net.has_order(numbers[0]):
        return [NOT_THERE]
    net.take_out(numbers[0])
    return [0]


def clear_call(net):
    ladders = ladders_of(net.orders)
    exports = net_exports(net.lines, ladders)
    return [0] + point_answer(exports) + lowest(worth_of(exports, ladders), exports[3])


def prices_call(net):
    ladders = ladders_of(net.orders)
    exports = net_exports(net.lines, ladders)
    return [0] + point_answer(supporting_prices(exports, net.lines, ladders))


def shares_call(net):
    ladders = ladders_of(net.orders)
    exports = net_exports(net.lines, ladders)
    shares = {}
    for k, ladder in enumerate(ladders):
        shares.update(ladder.shares(exports[k], exports[3]))
    answer = [0]
    for order in net.orders:
        answer.extend(lowest(shares[order.number], exports[3]))
    return answer


def loads_call(net):
    exports = net_exports(net.lines, ladders_of(net.orders))
    answer = [0]
    for line in net.lines:
        load = sum([factor * export for factor, export in zip(line.factors, exports[:3])])
        answer.extend(lowest(load, 1000 * exports[3]))
        answer.append(line.room)
    return answer


CHANGES = {1: line_call, 2: rooms_call, 3: order_call, 4: cancel_call}
REPORTS = {5: clear_call, 6: prices_call, 7: shares_call, 8: loads_call}


class House:
    """What one list of calls is about: a net, once there is one."""

    def __init__(self):
        self.net = None

    def answer(self, call):
        """The answer to a call, or its refusal; the call is its number, then its numbers."""
        if not is_well_formed(call):
            return [MALFORMED]
        if call[0] == NEW_NET:
            self.net = Net()
            return [0]
        if self.net is None:
            return [NO_NET]
        if call[0] in CHANGES:
            return CHANGES[call[0]](self.net, call[1:])
        return REPORTS[call[0]](self.net)


def answers(calls):
    """For each call of the list, in order, how many numbers are answered, then these."""
    house = House()
    told = []
    start = 0
    while start < len(calls):
        end = call_end(calls, start)
        answer = house.answer(calls[start:end])
        told.append(len(answer))
        told.extend(answer)
        start = end
    return told
