"""The bits of a number: their parts, their kind and their worth."""

from roundmill.errors import NoBits, NoParts, NotFinite
from roundmill.sizes import last_field, low, sign_bit, width


def parted(size, bits):
    if bits < 0 or bits >= 1 << width(size):
        raise NoBits("no number of this size has these bits")
    code = bits % sign_bit(size)
    step = 1 << size[1]
    return (bits // sign_bit(size), code // step, code % step)


# For functions that refuse what is no bits ahead of all that hangs on the single numbers.
def check_bits(size, numbers):
    for bits in numbers:
        parted(size, bits)


def joined(size, sign, field, figures):
    if sign < 0 or sign > 1:
        raise NoParts("a sign is 0 or 1")
    if field < 0 or field > last_field(size):
        raise NoParts("the field is out of this size's range")
    if figures < 0 or figures >= 1 << size[1]:
        raise NoParts("the figures are out of this size's range")
    return sign * sign_bit(size) + (field << size[1]) + figures


def kind(size, bits):
    parts = parted(size, bits)
    field = parts[1]
    figures = parts[2]
    if field == 0:
        return "nought" if figures == 0 else "faint"
    if field == last_field(size):
        return "endless" if figures == 0 else "none"
    return "plain"


def worth(size, bits):
    parts = parted(size, bits)
    sign = parts[0]
    field = parts[1]
    figures = parts[2]
    if field == last_field(size):
        raise NotFinite("an endless number or a none has no worth")
    if field == 0:
        return (sign, figures, low(size))
    return (sign, (1 << size[1]) + figures, low(size) + field - 1)


# The value of a worth, or of a sum of worths, as fraction tells it.
def worth_fraction(value):
    whole = value[1]
    power = value[2]
    if power >= 0:
        return (value[0], whole << power, 1)
    return (value[0], whole, 1 << -power)


def fraction(size, bits):
    return worth_fraction(worth(size, bits))


# The bits of a code with a sign; unlike joined, it asks for no parts.
def signed(size, sign, code):
    return sign * sign_bit(size) + code


def negated(size, bits):
    parts = parted(size, bits)
    return joined(size, 1 - parts[0], parts[1], parts[2])
