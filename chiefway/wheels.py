"""Wheels, the numbers on them, and turns."""

from chiefway.errors import NoWheel


def is_whole(thing):
    return isinstance(thing, int) and not isinstance(thing, bool)


def wheel(thing):
    # The words don't show the thing: Python refuses to write out very long numbers.
    if not is_whole(thing):
        raise NoWheel("a wheel is a whole number")
    if thing < 3 or thing > 10 ** 60:
        raise NoWheel("a wheel is from 3 to 10 ** 60")
    if thing % 2 == 0:
        raise NoWheel("a wheel is odd")
    return thing


def on(M, n):
    return n % M


def turned(M, turn, x):
    return on(M, turn[0] * x + turn[1])


def then(M, one, other):
    return (on(M, one[0] * other[0]), turned(M, other, one[1]))
