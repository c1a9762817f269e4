"""Fractions as they are answered."""


def common_divisor(first, second):
    """The greatest whole number that divides both; 0 if both are 0."""
    greater = abs(first)
    lesser = abs(second)
    while lesser != 0:
        greater, lesser = lesser, greater % lesser
    return greater


def lowest(top, bottom):
    """top over bottom (above 0) as numerator and denominator in lowest terms."""
    divisor = common_divisor(top, bottom)
    return [top // divisor, bottom // divisor]
