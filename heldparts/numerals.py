"""Integers of any length in decimal; Python itself refuses to convert those of thousands of digits at once."""

DIGITS = "0123456789"
# Most integers are shorter, and Python converts these at once.
SHORT = 10 ** 64


def numeral(number):
    """An integer in decimal."""
    if -SHORT < number < SHORT:
        return str(number)
    pieces = []
    rest = abs(number)
    while rest >= 10 ** 64:
        rest, low = divmod(rest, 10 ** 64)
        pieces.append(str(low).zfill(64))
    pieces.append(str(rest))
    sign = "-" if number < 0 else ""
    return sign + "".join(pieces[::-1])


def integer_in(word):
    """The integer that a word writes as `numeral` does, or None."""
    digits = word[1:] if word.startswith("-") else word
    if digits == "" or not all([digit in DIGITS for digit in digits]):
        return None
    if digits[0] == "0" and word != "0":
        return None
    first = len(digits) % 64
    number = int("0" + digits[:first])
    for at in range(first, len(digits), 64):
        number = number * 10 ** 64 + int(digits[at:at + 64])
    return -number if word.startswith("-") else number
