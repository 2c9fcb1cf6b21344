"""Pages: 30 octets of data and a check that tells whether all bits that should have fallen did so."""

from onewaybits.errors import InvalidData, InvalidOctets
from onewaybits.kinds import DATA_OCTETS, PAGE_OCTETS, is_octets_of
from onewaybits.octets import zero_bits

MOST_ZEROS = 240


def sealed(data):
    """Return the page that has these data and the number of their 0 bits as its check."""
    if not is_octets_of(data, DATA_OCTETS):
        raise InvalidData(data)
    return tuple(data) + (zero_bits(data),)


def is_clean(value):
    """Tell whether a value is a page of which all octets are 255."""
    return _is_page(value) and min(value) == 255


def is_whole(value):
    """Tell whether a value is a page whose check is the number of the 0 bits of its data."""
    return _is_page(value) and surplus(value) == 0


def is_torn(value):
    """Tell whether a value is a page that is neither clean nor whole."""
    return _is_page(value) and min(value) < 255 and surplus(value) != 0


def data_of(octets):
    """Return the data of a whole page, and None for a clean or a torn one."""
    if not _is_page(octets):
        raise InvalidOctets(octets)
    return data_told_by(octets)


def data_told_by(page):
    """Return the data of what is known to be a page, and None if it is not whole."""
    data = tuple(page[:DATA_OCTETS])
    check = page[DATA_OCTETS]
    # No data have so many 0 bits as a clean page has as its check, so its bits need not be counted.
    if check > MOST_ZEROS or check != zero_bits(data):
        return None
    return data


def surplus(octets):
    """Return the check of a page less the number of the 0 bits of its data."""
    if not _is_page(octets):
        raise InvalidOctets(octets)
    return octets[DATA_OCTETS] - zero_bits(octets[:DATA_OCTETS])


def is_rest(data, value):
    """Tell whether a value is a page in which each bit is 1 that is 1 in the page of the data."""
    page = sealed(data)
    return _is_page(value) and all([octet & due == due for octet, due in zip(value, page)])


def _is_page(value):
    return is_octets_of(value, PAGE_OCTETS)
