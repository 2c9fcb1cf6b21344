"""Indexes: where on a chip the records lie from which its meaning comes, and what comes next."""

from onewaybits.errors import InvalidBlock
from onewaybits.kinds import is_int, is_int_from
from onewaybits.meaning import last_number_told_by, places_told_by, ready_tail_and_reads, tree_told_by
from onewaybits.records import moved
from onewaybits.versions import NOW, needed, selected


class Index:
    """What was read of a chip."""

    def __init__(self, chip):
        self.chip = chip
        self.read_again()

    def read_again(self):
        """Read the chip as it is now."""
        # Whatever raises an error stands ahead of the first change.
        tail, reads = ready_tail_and_reads(self.chip)
        tree = tree_told_by(self.chip, reads)
        head, head_read = reads[-1]
        self.blocks = tuple([block for block, _ in reads])
        self.head = head
        self.seq = head_read.head.seq
        self.is_cleaning = head_read.head.is_cleaning
        self.tail = tail
        self.next_page = head_read.next_page
        self.next_number = last_number_told_by(reads) + 1
        self.next_id = tree.next_id
        self._tree = tree
        self._set_places(places_told_by(reads))

    def place_of(self, key):
        """Return the tuple (block, page, record) of the record of a key that is selected for now, or None."""
        if not _is_key(key):
            return None
        return self._places.get(key)

    def living_in(self, block):
        """Return the needed records of a block, in order of pages."""
        self._check_block(block)
        return list(self._living.get(block, []))

    def moved_in(self, block):
        """Return the needed records of a block as moved ones, in order of pages."""
        self._check_block(block)
        return list(self._moved.get(block, []))

    def tree(self):
        """Return a new tree that is the meaning of the chip."""
        return self._tree.copy()

    def _check_block(self, block):
        if not is_int_from(block, 0, self.chip.blocks - 1):
            raise InvalidBlock(block)

    def _set_places(self, places):
        """Set what the index keeps of the places (block, page, record) of the records that count."""
        records = [record for _, _, record in places]
        chosen = selected(records, NOW)
        deeds = _deeds_by_key(records)
        self._places = {key: places[chosen[key]] for key in chosen}
        self._living = {block: [] for block in self.blocks}
        self._moved = {block: [] for block in self.blocks}
        for k in needed(records):
            block, _, record = places[k]
            self._living[block].append(record)
            self._moved[block].append(moved(record, _until(record, deeds[record.key()])))


def _is_key(value):
    """Tell whether a value has the form of a key, so that it can be looked up."""
    if not isinstance(value, tuple) or len(value) < 2 or not isinstance(value[0], str):
        return False
    return all([is_int(part) or isinstance(part, str) for part in value[1:]])


def _deeds_by_key(records):
    deeds = {}
    for record in records:
        deeds.setdefault(record.key(), []).append(record.deed)
    return deeds


def _until(record, deeds):
    """Return the until of a record, or the deed from which on another record of its key tells what is there."""
    newer = [deed for deed in deeds if deed > record.deed]
    if record.until > 0 or len(newer) == 0:
        return record.until
    return min(newer)
