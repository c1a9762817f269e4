"""Fractions as they are handed in and answered.

In between, a point is four whole numbers: three tops, one for each zone, over the bottom
behind them, which is above 0.
"""


def common_divisor(first, second):
    """The greatest whole number that divides both; 0 if both are 0."""
    greater = abs(first)
    lesser = abs(second)
    while lesser != 0:
        greater, lesser = lesser, greater % lesser
    return greater


def lowest(top, bottom):
    """top over bottom (above 0) as numerator and denominator in lowest terms."""
    divisor = common_divisor(top, bottom)
    return [top // divisor, bottom // divisor]


def lowest_difference(top, bottom, other_top, other_bottom):
    """top over bottom less the other top over its bottom, in lowest terms."""
    return lowest(top * other_bottom - other_top * bottom, bottom * other_bottom)


def common_bottom(bottoms):
    """The least whole number above 0 that all of these divide."""
    common = 1
    for bottom in bottoms:
        common = common * (bottom // common_divisor(common, bottom))
    return common


def read_point(numbers):
    """The point that is handed in as three fractions."""
    bottoms = numbers[1::2]
    common = common_bottom(bottoms)
    first, second, third = [top * (common // bottom) for top, bottom in zip(numbers[::2], bottoms)]
    return (first, second, third, common)


def told_point(point):
    """A point as it's answered: three fractions, each in lowest terms."""
    told = []
    for top in point[:3]:
        told.extend(lowest(top, point[3]))
    return told
