"""Nets and calls by chance, the same ones each time."""

import random

from helper import buy, line, sell

# factors, rooms, prices, amounts: few numbers make for ties, many for fractions.
KINDS = [
    ((-1000, -500, 0, 500, 1000), (0, 1, 2, 3), range(-3, 4), range(1, 5)),
    (range(-3, 4), (0, 0, 0, 1), range(-3, 4), range(1, 5)),
    (range(-1000, 1001), (0, 0, 1), range(-3, 4), range(1, 5)),
    (range(-1000, 1001), (0, 1, 2, 5, 10), range(-50, 51), range(1, 21)),
    (range(-1000, 1001), range(1000001), range(-1000000, 1000001), range(1, 1000001)),
]


def random_line(kind, source):
    factors, sizes, _, _ = kind
    return line(*[source.choice(factors) for _ in range(3)], source.choice(sizes))


def random_order(kind, source, trading=False):
    """An order; in nets with much trading those who sell rather ask little and those who buy rather offer much."""
    _, _, prices, amounts = kind
    side = source.choice((sell, buy))
    price = source.choice(prices)
    if trading:
        price = (min if side == sell else max)(price, source.choice(prices))
    return side(source.randint(1, 3), price, source.choice(amounts))


def random_net(seed):
    source = random.Random(seed)
    kind = KINDS[seed % len(KINDS)]
    trading = source.choice((False, True))
    calls = [random_line(kind, source) for _ in range(source.randint(0, 4))]
    calls += [random_order(kind, source, trading) for _ in range(source.randint(8 * trading, 10))]
    source.shuffle(calls)
    return calls
