"""Whole numbers: what they are, their common divisors and their roots."""


def is_whole(thing):
    # Python counts True and False as integers; here they are none.
    return isinstance(thing, int) and not isinstance(thing, bool)


def common_divisor(a, b):
    """The greatest common divisor, not below 0; that of 0 and 0 is 0."""
    while b != 0:
        a, b = b, a % b
    return abs(a)


def whole_root(square):
    """The greatest whole number whose square is not above the one handed in, which is from 0 on."""
    if square == 0:
        return 0
    # The first guess is above the root, so Newton's steps go down until they reach it.
    guess = 1 << (square.bit_length() // 2 + 1)
    better = (guess + square // guess) // 2
    while better < guess:
        guess = better
        better = (guess + square // guess) // 2
    return guess
