"""Places: which pages of the counting blocks do not stand as stores write them."""

from onewaybits.blocks import records_told
from onewaybits.pages import is_clean, is_whole
from onewaybits.records import Seal, is_moved, is_tree_record


class Ahead:
    """The tree records ahead of a page: those of the counting blocks ahead, and those beside it in its own block."""

    def __init__(self):
        self.records = []
        self.counting = []
        self.in_good_blocks = []
        self.beside = []

    def begin_block(self):
        """Go on to the next block."""
        self.beside = []

    def add_record(self, record, is_counting, is_bad):
        """Go on behind a page that tells a tree record."""
        self.records.append(record)
        self.beside.append(record)
        if is_counting:
            self.counting.append(record)
        if not is_bad:
            self.in_good_blocks.append(record)


def out_of_place(chip, reads):
    """Return the tuples (block, page), ascending, of the pages of the counting blocks that are out of place."""
    found = []
    ahead = Ahead()
    for block, read in reads:
        found.extend([(block, page) for page in _out_of_place_in(chip, block, read, ahead)])
    return sorted(found)


def _out_of_place_in(chip, block, read, ahead):
    """Return the pages of a block that are out of place, and go on behind the block."""
    told = {page: record for page, record in records_told(chip, block)}
    counting = {page: True for page, _ in read.records}
    leading = _leading_moved(told)
    found = []
    ahead.begin_block()
    for page in range(1, chip.pages):
        record = told.get(page)
        if _is_misplaced(chip.read(block, page), page, read, chip.pages - 1):
            found.append(page)
        elif is_whole(chip.read(block, page)) and _is_misplaced_record(told, page, read, leading, ahead):
            found.append(page)
        if is_tree_record(record):
            ahead.add_record(record, page in counting, chip.is_bad(block))
    return found


def _leading_moved(told):
    """Return how many pages right behind the first one tell moved records."""
    count = 0
    while is_moved(told.get(count + 1)):
        count += 1
    return count


def _is_misplaced(octets, page, read, last):
    """Tell whether a page is out of place for what it is, whatever it tells."""
    if is_clean(octets):
        return page < read.next_page
    return page == last and not read.head.is_cleaning


def _is_misplaced_record(told, page, read, leading, ahead):
    """Tell whether a whole page is out of place for what it tells."""
    record = told.get(page)
    is_behind_moved = read.head.is_cleaning and leading >= page - 1
    if isinstance(record, Seal):
        return not is_behind_moved or record.count != page - 1
    if not is_tree_record(record):
        return True
    if is_moved(record):
        return not is_behind_moved or any([_clash(record, other) for other in ahead.counting])
    if record.at == 0:
        return _is_late(record, ahead)
    return not _goes_on(record, told.get(page - 1)) or _is_twice(record, ahead)


def _clash(record, other):
    """Tell whether a moved record and one ahead of it cannot both be told, as they have one key."""
    if record.key() != other.key():
        return False
    if record.deed == other.deed:
        return True
    if record.deed < other.deed:
        return record.until == 0 or record.until > other.deed
    return other.until > record.deed or other.until == 0 and record.until > 0


def _is_late(record, ahead):
    """Tell whether a group begins behind records that are newer, or, but for bad blocks, of the same deed."""
    if any([max(other.deed, other.until) > record.deed for other in ahead.records]):
        return True
    return any([other.of > 0 and other.deed == record.deed for other in ahead.in_good_blocks])


def _goes_on(record, other):
    """Tell whether a record is the next one of a group behind another one."""
    if not is_tree_record(other):
        return False
    return (other.deed, other.of, other.at) == (record.deed, record.of, record.at - 1)


def _is_twice(record, ahead):
    """Tell whether a record of the same group and key stands ahead in the same block."""
    return any([
        other.of > 0 and other.deed == record.deed and other.key() == record.key() for other in ahead.beside
    ])
