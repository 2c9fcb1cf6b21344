"""The meaning of a chip: the tree that the records of its counting blocks tell."""

from onewaybits.blocks import tail_and_reads
from onewaybits.errors import InvalidChip, InvalidRecords, NotReady
from onewaybits.groups import greatest_id, tree_of


def counting_records(chip):
    """Return the list of the records that count, block by block."""
    _, reads = ready_tail_and_reads(chip)
    return _counting_in(reads)


def meaning(chip):
    """Return the tree that a chip means."""
    _, reads = ready_tail_and_reads(chip)
    return tree_told_by(chip, reads)


def last_number(chip):
    """Return the greatest deed or until that counting blocks tell, and 0 if they tell none."""
    _, reads = ready_tail_and_reads(chip)
    return last_number_told_by(reads)


def ready_tail_and_reads(chip):
    """Return the tail of a chip and what its counting blocks tell, of which there has to be one."""
    tail, reads = tail_and_reads(chip)
    if len(reads) == 0:
        raise NotReady()
    return tail, reads


def tree_told_by(chip, reads):
    """Return the tree that a chip means, of which the counting blocks tell this."""
    try:
        return tree_of(_counting_in(reads), greatest_id(_all_in(reads)) + 1)
    except InvalidRecords:
        raise InvalidChip(chip) from None


def last_number_told_by(reads):
    """Return the greatest deed or until that counting blocks tell, and 0 if they tell none."""
    numbers = [0]
    for record in _all_in(reads):
        numbers.append(record.deed)
        numbers.append(record.until)
    return max(numbers)


def places_told_by(reads):
    """Return the tuples (block, page, record) of the records that count, of which the counting blocks tell this."""
    return [(block, page, record) for block, read in reads for page, record in read.records]


def _counting_in(reads):
    return [record for _, _, record in places_told_by(reads)]


def _all_in(reads):
    return [record for _, read in reads for _, record in read.all_records]
