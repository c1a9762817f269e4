"""What is answered about a net, which stays as it is."""

from zonelines.clearing import Clearing
from zonelines.exports import corners, is_balanced, keeps_to, let_borders, within_reach, worth_of
from zonelines.ratio import lowest, lowest_difference, read_point, told_point
from zonelines.refusals import NOT_THERE

NOT_BALANCED = 1
NOT_LET = 2
NOT_POSSIBLE = 3
POSSIBLE = 0


def cleared(net):
    return Clearing(net.lines, net.orders)


def clear_call(net):
    clearing = cleared(net)
    return [0] + told_point(clearing.exports) + lowest(clearing.gain(), clearing.exports[3])


def prices_call(net):
    return [0] + told_point(cleared(net).prices())


def shares_call(net):
    clearing = cleared(net)
    answer = [0]
    for share in clearing.shares():
        answer.extend(lowest(share, clearing.exports[3]))
    return answer


def loads_call(net):
    exports = cleared(net).exports
    answer = [0]
    for line in net.lines:
        load = sum([factor * export for factor, export in zip(line.factors, exports[:3])])
        answer.extend(lowest(load, 1000 * exports[3]))
        answer.append(line.room)
    return answer


def money_call(net):
    return [0] + told_point(cleared(net).money())


def corners_call(net):
    answer = [0]
    for first, second, third, bottom in corners(net.lines):
        answer.extend(lowest(first, bottom) + lowest(second, bottom))
    return answer


def check_call(net, numbers):
    exports = read_point(numbers[1:])
    if not is_balanced(exports):
        return [0, NOT_BALANCED]
    if not keeps_to(exports, let_borders(net.lines)):
        return [0, NOT_LET]
    clearing = cleared(net)
    if not within_reach(exports, clearing.ladders):
        return [0, NOT_POSSIBLE]
    worth = worth_of(exports, clearing.ladders)
    more = lowest_difference(clearing.gain(), clearing.exports[3], worth, exports[3])
    return [0, POSSIBLE] + lowest(worth, exports[3]) + more


def supports_call(net, numbers):
    return [0, 1 if cleared(net).is_supported(read_point(numbers[1:])) else 0]


def without_call(net, numbers):
    if not net.has_line(numbers[0]):
        return [NOT_THERE]
    place = numbers[0] - 1
    clearing = cleared(net)
    freed = Clearing(net.lines[:place] + net.lines[place + 1:], net.orders)
    return [0] + lowest_difference(freed.gain(), freed.exports[3], clearing.gain(), clearing.exports[3])


def range_call(net, numbers):
    answer = [0]
    for price in cleared(net).price_span(numbers[0]):
        answer.extend([0, 0] if price is None else [1, price])
    return answer


def plain_call(net):
    return [0, 1 if cleared(net).is_plain() else 0]


def alone_call(net):
    clearing = cleared(net)
    alone = [ladder.worth(0, 1) for ladder in clearing.ladders]
    return [0] + alone + lowest_difference(clearing.gain(), clearing.exports[3], sum(alone), 1)


def book_call(net):
    answer = [0, len(net.lines)]
    for line in net.lines:
        answer.extend(line.factors + [line.room])
    for order in net.orders:
        answer.extend([order.number, order.zone, 1 if order.buys else 0, order.price, order.amount])
    return answer


REPORTS = {
    5: clear_call,
    6: prices_call,
    7: shares_call,
    8: loads_call,
    9: money_call,
    10: corners_call,
    15: plain_call,
    16: alone_call,
    17: book_call,
}
REPORTS_WITH_NUMBERS = {11: check_call, 12: supports_call, 13: without_call, 14: range_call}


def report(net, number, numbers):
    """The answer to the call of this number, with its numbers."""
    if number in REPORTS_WITH_NUMBERS:
        return REPORTS_WITH_NUMBERS[number](net, numbers)
    return REPORTS[number](net)
