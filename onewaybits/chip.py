"""Chips: blocks of pages whose bits fall by writes and rise by erases, with planned cuts and failures."""

from onewaybits.errors import (
    InvalidBlock, InvalidChip, InvalidImage, InvalidMask, InvalidOctets, InvalidOp, InvalidPage, InvalidShape, PowerCut,
)
from onewaybits.kinds import PAGE_OCTETS, is_int, is_int_from, is_mask, is_octets, is_octets_of
from onewaybits.octets import changed, in_octets, number_in

LEAST_BLOCKS = 8
MOST_BLOCKS = 24
LEAST_PAGES = 8
MOST_PAGES = 16
LEAST_GOOD_BLOCKS = 7

# An image: the shape, the ops and the cuts, then for each block its erases and whether it is bad ahead of its pages.
IMAGE_HEAD = 11
BLOCK_HEAD = 5


class Chip:
    """So many blocks of so many pages, of which some blocks may turn bad."""

    def __init__(self, blocks, pages, bad):
        if not is_block_count(blocks):
            raise InvalidShape(blocks)
        if not is_page_count(pages):
            raise InvalidShape(pages)
        if not is_bad_count(bad, blocks):
            raise InvalidShape(bad)
        self.blocks = blocks
        self.pages = pages
        self.bad = bad
        self.ops = 0
        self.cuts = 0
        # The octets of a block are those of its pages in order, as one tuple, so that a write and an erase are alike.
        self._octets = [_clean_block(pages) for _ in range(blocks)]
        self._erased = [0] * blocks
        self._turned_bad = [False] * blocks
        self._cut_plans = {}
        self._fail_plans = {}
        # What others have made of the octets of blocks, until these change: they are read again and again.
        self._reads = {}

    def read(self, block, page):
        """Return the octets of a page."""
        self._check_block(block)
        self._check_page(page)
        return self._octets[block][page * PAGE_OCTETS:(page + 1) * PAGE_OCTETS]

    def write(self, block, page, octets):
        """Do the op that turns to 0 the bits of a page that are 0 in the octets; return whether it went well."""
        self._check_block(block)
        self._check_page(page)
        if not is_octets_of(octets, PAGE_OCTETS):
            raise InvalidOctets(octets)
        start = page * PAGE_OCTETS
        end = start + PAGE_OCTETS
        old = self._octets[block]
        written = tuple([was & octet for was, octet in zip(old[start:end], octets)])
        return self._do_op(block, old[:start] + written + old[end:])

    def erase(self, block):
        """Do the op that turns to 1 all bits of a block; return whether it went well."""
        self._check_block(block)
        if not self._turned_bad[block]:
            self._erased[block] += 1
        return self._do_op(block, _clean_block(self.pages))

    def erases(self, block):
        """Return the number of the erases that were begun while the block was good."""
        self._check_block(block)
        return self._erased[block]

    def cut(self, op, mask):
        """Plan a cut for the op with this number."""
        self._check_plan(op, mask)
        self._cut_plans[op] = mask

    def fail(self, op, mask):
        """Plan a failure for the op with this number."""
        self._check_plan(op, mask)
        self._fail_plans[op] = mask

    def clear_plans(self):
        """Remove all plans."""
        self._cut_plans = {}
        self._fail_plans = {}

    def is_bad(self, block):
        """Tell whether a block is bad."""
        self._check_block(block)
        return self._turned_bad[block]

    def bad_blocks(self):
        """Return the set of the bad blocks."""
        return [block for block in range(self.blocks) if self._turned_bad[block]]

    def kept_read(self, block):
        """Return what is kept of a block, or None if nothing is or the block was changed since."""
        return self._reads.get(block)

    def keep_read(self, block, read):
        """Keep what was made of the octets of a block until they change."""
        self._reads[block] = read

    def _check_block(self, block):
        if not is_int_from(block, 0, self.blocks - 1):
            raise InvalidBlock(block)

    def _check_page(self, page):
        if not is_int_from(page, 0, self.pages - 1):
            raise InvalidPage(page)

    def _check_plan(self, op, mask):
        if not is_int(op) or op < self.ops:
            raise InvalidOp(op)
        if not is_mask(mask):
            raise InvalidMask(mask)

    def _do_op(self, block, new):
        """Do the next op, which is to make these the octets of a block; return whether it went well."""
        op = self.ops
        self.ops += 1
        cut_mask = self._cut_plans.pop(op, None)
        fail_mask = self._fail_plans.pop(op, None)
        if cut_mask is not None:
            self.cuts += 1
            if not self._turned_bad[block]:
                self._set_octets(block, changed(self._octets[block], new, cut_mask))
            raise PowerCut(op)
        if self._turned_bad[block]:
            return False
        if fail_mask is not None and len(self.bad_blocks()) < self.bad:
            self._set_octets(block, changed(self._octets[block], new, fail_mask))
            self._turned_bad[block] = True
            return False
        self._set_octets(block, new)
        return True

    def _set_octets(self, block, octets):
        self._octets[block] = octets
        self._reads.pop(block, None)


def image(chip):
    """Return the octets that tell a chip, without its plans."""
    if not isinstance(chip, Chip):
        raise InvalidChip(chip)
    told = [chip.blocks, chip.pages, chip.bad]
    told.extend(_four_octets(chip.ops))
    told.extend(_four_octets(chip.cuts))
    for block in range(chip.blocks):
        told.extend(_four_octets(chip.erases(block)))
        told.append(int(chip.is_bad(block)))
        told.extend(chip._octets[block])
    return tuple(told)


def read_image(octets):
    """Return a new chip without plans that has this image."""
    if not _is_image(octets):
        raise InvalidImage(octets)
    chip = Chip(octets[0], octets[1], octets[2])
    chip.ops = number_in(octets[3:7])
    chip.cuts = number_in(octets[7:IMAGE_HEAD])
    for block, part in enumerate(_block_parts(octets)):
        chip._erased[block] = number_in(part[:4])
        chip._turned_bad[block] = part[4] == 1
        chip._octets[block] = tuple(part[BLOCK_HEAD:])
    return chip


def is_block_count(value):
    """Tell whether a chip may have so many blocks."""
    return is_int_from(value, LEAST_BLOCKS, MOST_BLOCKS)


def is_page_count(value):
    """Tell whether the blocks of a chip may have so many pages."""
    return is_int_from(value, LEAST_PAGES, MOST_PAGES)


def is_bad_count(value, blocks):
    """Tell whether so many blocks may turn bad of a chip with this number of blocks."""
    return is_int_from(value, 0, blocks - LEAST_GOOD_BLOCKS)


def _four_octets(number):
    # Callers who go beyond what four octets hold are told the greatest number, as that is to be no error.
    return in_octets(min(number, 2 ** 32 - 1), 4)


def _clean_block(pages):
    return (255,) * (pages * PAGE_OCTETS)


def _is_image(value):
    """Tell whether a value is the image of a chip."""
    if not is_octets(value) or len(value) < IMAGE_HEAD or not _is_shape(value[0], value[1], value[2]):
        return False
    if len(value) != IMAGE_HEAD + value[0] * _part_size(value):
        return False
    parts = _block_parts(value)
    flags = [part[4] for part in parts]
    if max(flags) > 1 or sum(flags) > value[2]:
        return False
    ops = number_in(value[3:7])
    return number_in(value[7:IMAGE_HEAD]) <= ops and sum([number_in(part[:4]) for part in parts]) <= ops


def _is_shape(blocks, pages, bad):
    return is_block_count(blocks) and is_page_count(pages) and is_bad_count(bad, blocks)


def _part_size(octets):
    """Return the number of the octets that an image has for each block."""
    return BLOCK_HEAD + PAGE_OCTETS * octets[1]


def _block_parts(octets):
    """Return the octets that an image of the right length has for each block, in order."""
    size = _part_size(octets)
    return [octets[start:start + size] for start in range(IMAGE_HEAD, len(octets), size)]
