"""Integers in decimal digits, however many these are."""

from backafter.powers import to_power

# Python itself turns no integer of more than 4300 digits into a text, and none back.
_DIGITS = 4000
# An integer of at most so many bits has at most 4215 digits.
_BITS = 14000


def written(number):
    """Return an integer in decimal digits without leading zeros, with a minus sign ahead below 0."""
    if number < 0:
        return "-" + written(-number)
    if number.bit_length() <= _BITS:
        return str(number)
    pieces = []
    limit = to_power(10, _DIGITS)
    while number >= limit:
        number, piece = divmod(number, limit)
        pieces.append(str(piece).zfill(_DIGITS))
    pieces.append(str(number))
    return "".join(reversed(pieces))


def read_whole(text):
    """Return the integer that a text is as it would be written, None if it is none."""
    if text.startswith("-"):
        number = read_natural(text[1:])
        return None if number is None or number == 0 else -number
    return read_natural(text)


def read_natural(text):
    """Return the integer from 0 on that a text is as it would be written, None if it is none."""
    if not text.isascii() or not text.isdigit():
        return None
    if text.startswith("0") and text != "0":
        return None
    number = 0
    for start in range(0, len(text), _DIGITS):
        piece = text[start:start + _DIGITS]
        number = number * to_power(10, len(piece)) + int(piece)
    return number
