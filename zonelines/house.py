"""The house: answers calls on one net, one behind another."""

from zonelines.layout import call_end, is_well_formed
from zonelines.net import Net
from zonelines.refusals import FULL, MALFORMED, NOT_THERE, NO_NET
from zonelines.reports import report

NEW_NET = 0


def line_call(net, numbers):
    if net.has_all_lines():
        return [FULL]
    return [0, net.add_line(numbers[:3], numbers[3])]


def rooms_call(net, numbers):
    if not net.has_line(numbers[0]):
        return [NOT_THERE]
    net.set_room(numbers[0], numbers[1])
    return [0]


def order_call(net, numbers):
    if net.has_all_orders():
        return [FULL]
    zone, side, price, amount = numbers
    return [0, net.add_order(zone, side == 1, price, amount)]


def cancel_call(net, numbers):
    if not net.has_order(numbers[0]):
        return [NOT_THERE]
    net.take_out(numbers[0])
    return [0]


CHANGES = {1: line_call, 2: rooms_call, 3: order_call, 4: cancel_call}


class House:
    """What one list of calls is about: a net, once there is one."""

    def __init__(self):
        self.net = None

    def answer(self, call):
        """The answer to a call, or its refusal; the call is its number, then its numbers."""
        if not is_well_formed(call):
            return [MALFORMED]
        if call[0] == NEW_NET:
            self.net = Net()
            return [0]
        if self.net is None:
            return [NO_NET]
        if call[0] in CHANGES:
            return CHANGES[call[0]](self.net, call[1:])
        return report(self.net, call[0], call[1:])


def answers(calls):
    """For each call of the list, in order, how many numbers are answered, then these."""
    house = House()
    told = []
    start = 0
    while start < len(calls):
        end = call_end(calls, start)
        answer = house.answer(calls[start:end])
        told.append(len(answer))
        told.extend(answer)
        start = end
    return told
