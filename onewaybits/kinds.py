"""Kinds of plain values that several modules ask for."""

PAGE_OCTETS = 31
MASK_BITS = 4096


def is_int(value):
    """Tell whether a value is an integer: an int other than True and False."""
    return isinstance(value, int) and not isinstance(value, bool)


def is_int_from(value, least, greatest):
    """Tell whether a value is an integer from the least to the greatest one."""
    return is_int(value) and least <= value <= greatest


def is_octets(value):
    """Tell whether a value is a list or a tuple of octets, be it empty."""
    return isinstance(value, (list, tuple)) and all([is_int_from(octet, 0, 255) for octet in value])


def is_octets_of(value, count):
    """Tell whether a value is a list or a tuple of so many octets."""
    return is_octets(value) and len(value) == count


def is_mask(value):
    """Tell whether a value is a mask: an integer from 0 to below 2 to the power of MASK_BITS."""
    return is_int(value) and value >= 0 and value.bit_length() <= MASK_BITS
