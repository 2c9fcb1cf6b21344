"""Lists of octets, their bits, and what a cut leaves of a change to them."""

from onewaybits.errors import InvalidCount, InvalidMask, InvalidNumber, InvalidOctets
from onewaybits.kinds import is_int, is_int_from, is_mask, is_octets

MOST_OCTETS_OF_A_NUMBER = 8

# The number of the 0 bits of each half of an octet.
ZEROS_OF_HALF = (4, 3, 3, 2, 3, 2, 2, 1, 3, 2, 2, 1, 2, 1, 1, 0)


def zeros(octets):
    """Return the number of the bits that are 0."""
    _check_octets(octets)
    return zero_bits(octets)


def zero_bits(octets):
    """Return the number of the bits that are 0 of what is known to be a list of octets."""
    return sum([ZEROS_OF_HALF[octet >> 4] + ZEROS_OF_HALF[octet & 15] for octet in octets])


def falls(old, new):
    """Return the set of the bits that are 1 in old and 0 in new."""
    _check_pair(old, new)
    return _ones([was & (was ^ now) for was, now in zip(old, new)])


def rises(old, new):
    """Return the set of the bits that are 0 in old and 1 in new."""
    _check_pair(old, new)
    return _ones([now & (was ^ now) for was, now in zip(old, new)])


def changed(old, new, mask):
    """Return the octets in which the k-th unlike bit is as in new exactly if bit k of the mask is 1."""
    _check_pair(old, new)
    if not is_mask(mask):
        raise InvalidMask(mask)
    unlike = _ones([was ^ now for was, now in zip(old, new)])
    octets = list(old)
    for k, bit in enumerate(unlike):
        if (mask >> k) & 1:
            octets[bit // 8] = octets[bit // 8] ^ _worth(bit)
    return tuple(octets)


def number_in(octets):
    """Return the number that the octets tell, the highest one first."""
    _check_octets(octets)
    return number_told_by(octets)


def number_told_by(octets):
    """Return the number that is told by what is known to be a list of octets."""
    number = 0
    for octet in octets:
        number = number * 256 + octet
    return number


def in_octets(number, count):
    """Return the tuple of so many octets that tell a number."""
    if not is_int_from(count, 0, MOST_OCTETS_OF_A_NUMBER):
        raise InvalidCount(count)
    if not is_int(number) or number < 0 or number.bit_length() > 8 * count:
        raise InvalidNumber(number)
    return octets_telling(number, count)


def octets_telling(number, count):
    """Return the tuple of so many octets that tell what is known to be a number that they can tell."""
    return tuple([(number >> (8 * k)) & 255 for k in reversed(range(count))])


def _check_octets(octets):
    if not is_octets(octets):
        raise InvalidOctets(octets)


def _check_pair(old, new):
    _check_octets(old)
    _check_octets(new)
    if len(old) != len(new):
        raise InvalidOctets(new)


def _ones(octets):
    """Return the set of the bits that are 1."""
    return [bit for bit in range(8 * len(octets)) if octets[bit // 8] & _worth(bit)]


def _worth(bit):
    """Return what a bit of a list of octets counts in its octet."""
    return 128 >> (bit % 8)
