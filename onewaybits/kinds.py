"""Kinds of plain values that several modules ask for."""

PAGE_OCTETS = 31
DATA_OCTETS = 30
MASK_BITS = 4096
MOST_NUMBER = 2 ** 32 - 1
MOST_LETTERS = 8
LETTERS = "abcdefghijklmnopqrstuvwxyz"


def is_int(value):
    """Tell whether a value is an integer: an int other than True and False."""
    return isinstance(value, int) and not isinstance(value, bool)


def is_int_from(value, least, greatest):
    """Tell whether a value is an integer from the least to the greatest one."""
    # This is asked of each number of each record that is read, so the test of an integer is written out.
    return isinstance(value, int) and not isinstance(value, bool) and least <= value <= greatest


def is_list(value):
    """Tell whether a value is a list, or a tuple, which may be passed in its place."""
    return isinstance(value, (list, tuple))


def is_octets(value):
    """Tell whether a value is a list or a tuple of octets, be it empty."""
    # This is asked of each page that is read, so the test of an integer is written out.
    return is_list(value) and all(
        [isinstance(octet, int) and not isinstance(octet, bool) and 0 <= octet <= 255 for octet in value]
    )


def is_octets_of(value, count):
    """Tell whether a value is a list or a tuple of so many octets."""
    return is_list(value) and len(value) == count and is_octets(value)


def is_mask(value):
    """Tell whether a value is a mask: an integer from 0 to below 2 to the power of MASK_BITS."""
    return is_int(value) and value >= 0 and value.bit_length() <= MASK_BITS


def is_name(value):
    """Tell whether a value is a name: a string of 1 to 8 letters from a to z."""
    return isinstance(value, str) and 1 <= len(value) <= MOST_LETTERS and all([sign in LETTERS for sign in value])


def is_path(value):
    """Tell whether a value is a path: a tuple of names, be it empty."""
    return isinstance(value, tuple) and all([is_name(name) for name in value])
