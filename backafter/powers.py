"""Powers, whose exponents are known at the run alone."""


def to_power(base, power):
    """Return the base to the power, an integer from 0 on."""
    found = 1
    for _ in range(power):
        found = found * base
    return found
