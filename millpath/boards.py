"""Regions of a plate as one number each: bit by bit its quarters, as they rise."""


def bits_of(region, wide, high):
    """The bits of those quarters of a region that are a plate's."""
    bits = 0
    for x, y, side in region:
        if 0 <= x < wide and 0 <= y < high:
            bits |= 1 << (4 * (x * high + y) + side)
    return bits


def all_bits(wide, high):
    """The bits of all quarters of a plate."""
    return (1 << (4 * wide * high)) - 1


def region_of(bits, high):
    """The region of some bits."""
    return [quarter_at(at, high) for at in range(bits.bit_length()) if bits & (1 << at)]


def least_of(bits, high):
    """The least quarter of some bits, one at least."""
    return quarter_at((bits & -bits).bit_length() - 1, high)


def quarter_at(at, high):
    """The quarter of the bit of a number."""
    return (at // (4 * high), at // 4 % high, at % 4)
