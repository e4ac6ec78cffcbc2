"""Powers of whole numbers."""


def power(base, exponent):
    told = 1
    for step in range(exponent):
        told = told * base
    return told
