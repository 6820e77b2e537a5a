"""Powers, whose exponents are known at the run alone."""


def to_power(base, power):
    """Return the base to the power, an integer from 0 on."""
    found = 1
    square = base
    rest = power
    while rest > 0:
        if rest % 2 == 1:
            found = found * square
        rest = rest // 2
        # The last square would not be used, and it would be the greatest one.
        if rest > 0:
            square = square * square
    return found
