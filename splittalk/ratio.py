"""Exact fractions."""

from math import gcd, lcm

from splittalk.errors import BadRatio

# One more than the largest number of 60 digits.
_BLOCK = 10 ** 60


def _digits(number):
    """The text of a number, of any size."""
    if number < 0:
        return f"-{_digits(-number)}"
    # Python itself refuses to write numbers of thousands of digits at once.
    blocks = []
    while number >= _BLOCK:
        blocks.append(str(number % _BLOCK).zfill(60))
        number = number // _BLOCK
    blocks.append(str(number))
    return "".join(reversed(blocks))


class Ratio:
    """A fraction in lowest terms with a positive denominator."""

    def __init__(self, num, den=1):
        if den <= 0:
            raise BadRatio("the denominator is not positive")
        shared = gcd(num, den)
        self.num = num // shared
        self.den = den // shared

    def __add__(self, other):
        return Ratio(self.num * other.den + other.num * self.den, self.den * other.den)

    def __sub__(self, other):
        return Ratio(self.num * other.den - other.num * self.den, self.den * other.den)

    def __mul__(self, other):
        return Ratio(self.num * other.num, self.den * other.den)

    def __eq__(self, other):
        return isinstance(other, Ratio) and self.num == other.num and self.den == other.den

    def __str__(self):
        if self.den == 1:
            return f"{_digits(self.num)}"
        return f"{_digits(self.num)}/{_digits(self.den)}"

    def less(self, other):
        """Whether this fraction is less than the other one."""
        return self.num * other.den < other.num * self.den


def over_one(ratios):
    """The numerators of fractions over one denominator for all, and this denominator."""
    den = 1
    for ratio in ratios:
        den = lcm(den, ratio.den)
    return [ratio.num * (den // ratio.den) for ratio in ratios], den
