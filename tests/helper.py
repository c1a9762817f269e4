"""Calls as tests write them, and their answers."""

from fractions import Fraction

from zonelines.house import answers

OPEN = (0,)
CLEAR = (5,)
PRICES = (6,)
SHARES = (7,)
LOADS = (8,)
MONEY = (9,)
CORNERS = (10,)
PLAIN = (15,)
ALONE = (16,)
BOOK = (17,)
FAR = 100000000


def line(first, second, third, room):
    return (1, first, second, third, room)


def rooms(number, room):
    return (2, number, room)


def sell(zone, price, amount):
    return (3, zone, 0, price, amount)


def buy(zone, price, amount):
    return (3, zone, 1, price, amount)


def cancel(number):
    return (4, number)


def row(numbers):
    """A list as an argument: how many numbers it has, then these."""
    return (len(numbers),) + tuple(numbers)


def check(first, second, third):
    return (11,) + row(flat(first, second, third)[1:])


def supports(first, second, third):
    return (12,) + row(flat(first, second, third)[1:])


def without(number):
    return (13, number)


def price_range(zone):
    return (14, zone)


def can_be_handed_in(point):
    """Whether these fractions are in the range of a point that is an argument."""
    return all(abs(value.numerator) <= 10 ** 12 and value.denominator <= 10 ** 9 for value in point)


def ask(*calls):
    """The answers to these calls, one list each."""
    told = answers([number for call in calls for number in call])
    found = []
    at = 0
    while at < len(told):
        found.append(told[at + 1:at + 1 + told[at]])
        at += 1 + told[at]
    assert at == len(told) and len(found) == len(calls)
    return found


def last(*calls):
    """What the last call answers on an open net."""
    return ask(OPEN, *calls)[-1]


def flat(*values):
    """0, then these fractions, two numbers each: an accepted answer."""
    told = [0]
    for value in values:
        told += [Fraction(value).numerator, Fraction(value).denominator]
    return told


def as_fractions(numbers):
    return [Fraction(top, bottom) for top, bottom in zip(numbers[::2], numbers[1::2])]
