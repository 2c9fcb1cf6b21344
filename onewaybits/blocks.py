"""Blocks: what their pages tell, and which of them count."""

from onewaybits.chip import Chip
from onewaybits.errors import InvalidBlock, InvalidChip
from onewaybits.kinds import is_int_from
from onewaybits.pages import data_told_by
from onewaybits.records import Head, Seal, is_tree_record, record_told_by

LEAST_TAIL = 1


class BlockRead:
    """What the pages of a block tell, as they were when they were read."""

    def __init__(self, told, next_page):
        # What is told is a tuple of tuples (page, record), empty if the block has no head.
        self.head = None
        self.seal = None
        if len(told) > 0:
            self.head = told[0][1]
        for _, record in told:
            if isinstance(record, Seal):
                self.seal = record
        self.all_records = [(page, record) for page, record in told if is_tree_record(record)]
        self.records = _in_whole_groups(self.all_records)
        self.next_page = next_page
        self.stands = self.head is not None and (not self.head.is_cleaning or self.seal is not None)


def read_block(chip, block):
    """Return what a block tells."""
    _check_chip(chip)
    if not is_int_from(block, 0, chip.blocks - 1):
        raise InvalidBlock(block)
    told, next_page = _read_of(chip, block)
    return BlockRead(told, next_page)


def counting(chip):
    """Return the blocks that count, ascending by seq and then by index."""
    _, reads = tail_and_reads(chip)
    return [block for block, _ in reads]


def tail_of(chip):
    """Return the greatest tail that the blocks tell which stand, and 1 if none stands."""
    tail, _ = tail_and_reads(chip)
    return tail


def tail_and_reads(chip):
    """Return the tail of a chip, and its counting blocks in order, each in a tuple with what it tells."""
    _check_chip(chip)
    reads = _standing_reads(chip)
    tail = _tail_told_by(reads)
    found = sorted([(read.head.seq, block) for block, read in reads.items() if read.head.seq >= tail])
    return tail, [(block, reads[block]) for _, block in found]


def records_told(chip, block):
    """Return a tuple (page, record) for each page of a block that tells a record, a Head and a Seal, too."""
    told, _ = _read_of(chip, block)
    return list(told)


def free_blocks(chip, counted):
    """Return the good blocks beside those that count, going round from behind the last one of these, or from 0 on."""
    start = 0
    if len(counted) > 0:
        start = counted[-1] + 1
    around = list(range(start, chip.blocks)) + list(range(start))
    return [block for block in around if not chip.is_bad(block) and block not in counted]


def _check_chip(chip):
    if not isinstance(chip, Chip):
        raise InvalidChip(chip)


def _read_of(chip, block):
    """Return what the pages of a block tell, and its next page, as the chip keeps them until the block changes."""
    read = chip.kept_read(block)
    if read is None:
        pages = [chip.read(block, page) for page in range(chip.pages)]
        read = (_told_by(pages), _next_page(pages))
        chip.keep_read(block, read)
    return read


def _told_by(pages):
    """Return a tuple (page, record) for each page that tells a record, none if the first one tells no head."""
    told = []
    for page, octets in enumerate(pages):
        record = _read_page(octets)
        if page == 0 and not isinstance(record, Head):
            return ()
        if record is not None:
            told.append((page, record))
    return tuple(told)


def _read_page(octets):
    data = data_told_by(octets)
    if data is None:
        return None
    return record_told_by(data)


def _next_page(pages):
    """Return the least index of a page from which on all pages are clean."""
    page = len(pages)
    while page > 0 and min(pages[page - 1]) == 255:
        page -= 1
    return page


def _in_whole_groups(told):
    """Return those (page, record) whose record is a moved one, or of a group that is there as a whole."""
    stamps = {(record.deed, record.of, record.at): True for _, record in told}
    return [
        (page, record) for page, record in told
        if all([(record.deed, record.of, at) in stamps for at in range(record.of)])
    ]


def _standing_reads(chip):
    """Return what those blocks tell that stand, by block."""
    reads = {}
    for block in range(chip.blocks):
        read = read_block(chip, block)
        if read.stands:
            reads[block] = read
    return reads


def _tail_told_by(reads):
    tails = [LEAST_TAIL]
    for read in reads.values():
        tails.append(read.head.tail)
        if read.seal is not None:
            tails.append(read.seal.tail)
    return max(tails)
