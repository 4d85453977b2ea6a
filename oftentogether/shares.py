"""Shares: exact parts of a whole, as tuples in lowest terms."""

from oftentogether.checks import is_number
from oftentogether.errors import NoShare


def greatest_divisor(one, other):
    while other:
        rest = one % other
        one = other
        other = rest
    return one


def share(top, bottom):
    if not is_number(top) or not is_number(bottom) or bottom == 0:
        raise NoShare("a share is made of a number and a number from 1 on")
    divisor = greatest_divisor(top, bottom)
    return (top // divisor, bottom // divisor)


def reaches(one, other):
    return one[0] * other[1] >= other[0] * one[1]
