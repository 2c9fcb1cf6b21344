"""Charts: what lies on a chip, with a letter for each page."""

from onewaybits.blocks import records_told, tail_and_reads
from onewaybits.chip import Chip
from onewaybits.errors import InvalidChip
from onewaybits.meaning import places_told_by
from onewaybits.pages import is_clean, is_torn
from onewaybits.records import Head, Seal
from onewaybits.versions import needed


def chart(chip):
    """Return a string for each block of a chip: its index, a sign, and a letter for each page."""
    if not isinstance(chip, Chip):
        raise InvalidChip(chip)
    _, reads = tail_and_reads(chip)
    blocks = [block for block, _ in reads]
    needed_pages = _needed_pages(reads)
    return [
        f"{block} {_sign(chip, block, blocks)} {_letters(chip, block, needed_pages)}" for block in range(chip.blocks)
    ]


def _needed_pages(reads):
    """Return the tuples (block, page) of the needed ones of the records that count, as keys."""
    places = places_told_by(reads)
    return {places[k][:2]: True for k in needed([record for _, _, record in places])}


def _sign(chip, block, blocks):
    if block in blocks:
        return "*"
    if chip.is_bad(block):
        return "x"
    return "-"


def _letters(chip, block, needed_pages):
    told = {page: record for page, record in records_told(chip, block)}
    return "".join([
        _letter(chip.read(block, page), told.get(page), (block, page) in needed_pages) for page in range(chip.pages)
    ])


def _letter(octets, record, is_needed):
    """Return the letter of a page that tells a record, or None."""
    if is_clean(octets):
        return "."
    if is_torn(octets):
        return "t"
    if isinstance(record, Head):
        return "c" if record.is_cleaning else "h"
    if isinstance(record, Seal):
        return "s"
    return "n" if is_needed else "d"
