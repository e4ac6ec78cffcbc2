"""Fractions: pairs of a top and an under above nought, without a common divisor but 1."""


def greatest_divisor(top, under):
    # A rest has the sign of what it is taken by, so the divisor ends with the sign of the under.
    divisor = under
    rest = top % under
    while rest != 0:
        smaller = divisor % rest
        divisor = rest
        rest = smaller
    return divisor


def fraction(top, under):
    # The divisor bears the sign of the under, so the new under is above nought without a further step.
    divisor = greatest_divisor(top, under)
    return (top // divisor, under // divisor)
