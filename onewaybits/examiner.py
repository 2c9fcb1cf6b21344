"""The examiner: what stores cannot have brought onto a chip."""

from onewaybits.blocks import records_told, tail_and_reads
from onewaybits.chip import Chip
from onewaybits.cleaner import most_counting
from onewaybits.errors import InvalidChip
from onewaybits.groups import living
from onewaybits.meaning import tree_told_by
from onewaybits.pages import is_torn, surplus
from onewaybits.places import out_of_place
from onewaybits.records import Seal
from onewaybits.room import bound


def findings(chip):
    """Return the list of what stores cannot have brought onto a chip."""
    if not isinstance(chip, Chip):
        raise InvalidChip(chip)
    tail, reads = tail_and_reads(chip)
    found = _findings_of_pages(chip)
    if len(reads) == 0:
        return found + [("none",)]
    blocks = [block for block, _ in reads]
    found.extend([("seq", block) for k, (block, read) in enumerate(reads) if read.head.seq != tail + k])
    if _good_way(chip, blocks) != blocks:
        found.append(("round",))
    if len(blocks) > most_counting(chip) + 1:
        found.append(("crowd", len(blocks)))
    found.extend([("page", block, page) for block, page in out_of_place(chip, reads)])
    torn = sum([_torn_pages(chip, block) for block in blocks])
    if torn > chip.cuts + len(chip.bad_blocks()):
        found.append(("torn", torn))
    return found + _findings_of_tree(chip, reads)


def _findings_of_pages(chip):
    """Return a finding for each page that no sound chip has."""
    found = []
    for block in range(chip.blocks):
        told = {page: record for page, record in records_told(chip, block)}
        for page in range(chip.pages):
            if surplus(chip.read(block, page)) < 0 or _is_beyond(told.get(page), told):
                found.append(("unsound", block, page))
    return found


def _is_beyond(record, told):
    """Tell whether a record of a block that tells this is a seal with a tail above the seq of the block."""
    return isinstance(record, Seal) and record.tail > told[0].seq


def _good_way(chip, blocks):
    """Return the blocks round the chip from the first counting one to the last one, without what is bad in vain."""
    way = [blocks[0]]
    while way[-1] != blocks[-1]:
        way.append((way[-1] + 1) % chip.blocks)
    return [block for block in way if block in blocks or not chip.is_bad(block)]


def _torn_pages(chip, block):
    return len([page for page in range(chip.pages) if is_torn(chip.read(block, page))])


def _findings_of_tree(chip, reads):
    try:
        measure = living(tree_told_by(chip, reads))
    except InvalidChip:
        return [("tree",)]
    if measure > bound(chip):
        return [("full", measure)]
    return []
