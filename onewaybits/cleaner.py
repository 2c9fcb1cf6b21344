"""Cleaning: what is needed of the eldest blocks is moved into a new one, so that they can be erased."""

from onewaybits.blocks import read_block
from onewaybits.chip import Chip
from onewaybits.errors import InvalidChip, InvalidCount, NoRoom
from onewaybits.kinds import is_int_from
from onewaybits.records import MOST_RECORDS
from onewaybits.writer import PAGES_BESIDE

# One block for a plain one that is opened where as many count as may, and one that is free for cleaning then.
BLOCKS_BESIDE = 2


def most_counting(chip):
    """Return how many blocks may count when a plain block is opened."""
    if not isinstance(chip, Chip):
        raise InvalidChip(chip)
    return chip.blocks - chip.bad - BLOCKS_BESIDE


def eldest(writer):
    """Return the number of the eldest blocks that one cleaning step takes, and their needed records as moved ones."""
    count = 0
    lot = []
    for block in writer.index.blocks:
        records = writer.index.moved_in(block)
        if count > 0 and len(lot) + len(records) > writer.chip.pages - PAGES_BESIDE:
            break
        lot.extend(records)
        count += 1
    return count, lot


def clean_step(writer):
    """Move what is needed of the eldest blocks into a new one, so that they count no more; return their number."""
    count, lot = eldest(writer)
    tail = _tail_behind(writer, count)
    seq = writer.index.seq
    # The seal alone makes another block the head, also if its op fails while all of its bits turn.
    while writer.index.seq == seq:
        _try_step(writer, lot, tail)
    return count


def clean(writer):
    """Do cleaning steps until no more blocks count than may when a plain block is opened."""
    steps = len(writer.index.blocks)
    for _ in range(steps):
        if not _is_crowded(writer):
            return
        clean_step(writer)
    if _is_crowded(writer):
        raise NoRoom()


def make_room(writer, count):
    """Make sure that so many records fit into the head."""
    if not is_int_from(count, 1, MOST_RECORDS):
        raise InvalidCount(count)
    while not writer.fits(count):
        if _is_crowded(writer):
            clean(writer)
        else:
            writer.open_block(False)


def _is_crowded(writer):
    """Tell whether more blocks count than may when a plain block is opened."""
    return len(writer.index.blocks) > most_counting(writer.chip)


def _tail_behind(writer, count):
    """Return the seq of the block behind the eldest ones, or that of the cleaning block if there is none."""
    blocks = writer.index.blocks
    if count == len(blocks):
        return writer.index.seq + 1
    return read_block(writer.chip, blocks[count]).head.seq


def _try_step(writer, lot, tail):
    if writer.open_block(True) and writer.put_moved(lot):
        writer.seal(tail, len(lot))
