"""Writers: they do the ops on a chip, so that nothing that it means is lost by a cut or a failure."""

from onewaybits.blocks import free_blocks
from onewaybits.errors import InvalidCount, InvalidNumber, InvalidRecords, NoRoom, NotReady
from onewaybits.index import Index
from onewaybits.kinds import is_int, is_int_from, is_list
from onewaybits.pages import sealed
from onewaybits.records import MOST_RECORDS, Head, Seal, is_moved, is_tree_record, written

# Of each block the first page is kept for its head, and one more for what a cleaning block needs: its seal.
PAGES_BESIDE = 2


class Writer:
    """What writes clean pages and erases free blocks of a chip."""

    def __init__(self, chip):
        self.index = Index(chip)
        self.chip = chip
        # The cleaning block that is being filled, and with how many records it was filled so far.
        self._filling = None
        self._filled = 0

    def free(self):
        """Return the good blocks that do not count, going round from behind the head."""
        return free_blocks(self.chip, self.index.blocks)

    def fits(self, count):
        """Tell whether so many records fit into the head."""
        if not is_int_from(count, 1, self.chip.pages - PAGES_BESIDE):
            raise InvalidCount(count)
        end = self.chip.pages
        if not self.index.is_cleaning:
            end -= 1
        return not self.chip.is_bad(self.index.head) and self.index.next_page + count <= end

    def put(self, records):
        """Write the records of a group into the head; return whether no op failed."""
        if not self._is_group_that_fits(records):
            raise InvalidRecords(records)
        is_put = self._write(self.index.head, self.index.next_page, records)
        self.index.read_again()
        return is_put

    def open_block(self, is_cleaning):
        """Erase the first free block and begin it with a head; return whether no op failed."""
        if not isinstance(is_cleaning, bool):
            raise InvalidNumber(is_cleaning)
        free = self.free()
        if len(free) == 0:
            raise NoRoom()
        self._filling = None
        self._filled = 0
        head = Head(self.index.seq + 1, self.index.tail, is_cleaning)
        is_opened = self.chip.erase(free[0]) and self._write(free[0], 0, [head])
        if is_opened and is_cleaning:
            self._filling = free[0]
        self.index.read_again()
        return is_opened

    def put_moved(self, records):
        """Write moved records into the cleaning block that is being filled; return whether no op failed."""
        self._check_filling()
        if not self._are_moved_that_fit(records):
            raise InvalidRecords(records)
        is_put = self._write(self._filling, 1 + self._filled, records)
        # The block does not count yet, so the index is as before.
        self._filled += len(records)
        if not is_put:
            self._filling = None
        return is_put

    def seal(self, tail, count):
        """Write a seal behind the moved records of the block that is being filled; return whether the op did not fail.

        The block is filled no more then.
        """
        self._check_filling()
        if not is_int_from(tail, self.index.tail, self.index.seq + 1):
            raise InvalidNumber(tail)
        if not is_int(count) or count != self._filled:
            raise InvalidCount(count)
        is_sealed = self._write(self._filling, 1 + count, [Seal(tail, count)])
        self._filling = None
        self.index.read_again()
        return is_sealed

    def _check_filling(self):
        if self._filling is None:
            raise NotReady()

    def _is_group_that_fits(self, value):
        if not is_list(value) or not 1 <= len(value) <= MOST_RECORDS:
            return False
        return _is_group(value) and self.fits(len(value))

    def _are_moved_that_fit(self, value):
        if not is_list(value) or self._filled + len(value) > self.chip.pages - PAGES_BESIDE:
            return False
        return all([is_moved(record) for record in value])

    def _write(self, block, page, records):
        """Write records into the pages from one on until an op fails; return whether none did."""
        for k, record in enumerate(records):
            if not self.chip.write(block, page + k, sealed(written(record))):
                return False
        return True


def _is_group(records):
    """Tell whether records tell that they are those of one deed, in order."""
    if not all([is_tree_record(record) for record in records]):
        return False
    stamps = [(record.deed, record.at, record.of) for record in records]
    return stamps == [(records[0].deed, at, len(records)) for at in range(len(records))]
