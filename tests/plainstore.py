"""What stages 11 to 13 tell of ops, told anew and slowly upon a chip, to compare the program with.

Nothing is kept from one call to the next but the tree, the number and what is pending of a PlainStore: what lies on the
chip is worked out from its pages each time.
"""

from onewaybits.blocks import counting, read_block, tail_of
from onewaybits.groups import group, living
from onewaybits.meaning import last_number, meaning
from onewaybits.pages import sealed
from onewaybits.records import Head, written
from tests.chips import cleaning_records, lot_sizes, record_on
from tests.workshop import bound_of


def plain_free(chip):
    counted = counting(chip)
    first = counted[-1] + 1 if counted else 0
    around = [(first + k) % chip.blocks for k in range(chip.blocks)]
    return [block for block in around if block not in counted and not chip.is_bad(block)]


def plain_fits(chip, count):
    head = counting(chip)[-1]
    last = chip.pages if record_on(chip, head, 0).is_cleaning else chip.pages - 1
    return not chip.is_bad(head) and read_block(chip, head).next_page + count <= last


def plain_put(chip, records, block=None, page=None):
    """Write records one behind the other until one fails, into the head from its next page on if nothing is said."""
    block = counting(chip)[-1] if block is None else block
    page = read_block(chip, block).next_page if page is None else page
    for at, record in enumerate(records):
        if not chip.write(block, page + at, sealed(written(record))):
            return False
    return True


def plain_open(chip):
    head = Head(record_on(chip, counting(chip)[-1], 0).seq + 1, tail_of(chip), False)
    block = plain_free(chip)[0]
    return chip.erase(block) and plain_put(chip, [head], block, 0)


def plain_lot(chip):
    return max(lot_sizes(chip))


def plain_step(chip):
    count = plain_lot(chip)
    records = cleaning_records(chip, count)
    while True:
        block = plain_free(chip)[0]
        if chip.erase(block) and plain_put(chip, records, block, 0) or block in counting(chip):
            return count


def plain_clean(chip):
    for _ in counting(chip):
        if len(counting(chip)) > chip.blocks - chip.bad - 2:
            plain_step(chip)


def plain_room(chip, count):
    while not plain_fits(chip, count):
        if len(counting(chip)) > chip.blocks - chip.bad - 2:
            plain_clean(chip)
        else:
            plain_open(chip)


def plain_ready(chip):
    while True:
        reads = [read_block(chip, block) for block in range(chip.blocks)]
        seqs = [read.head.seq for read in reads if read.head] + [read.head.tail for read in reads if read.head]
        seq = 1 + max(seqs + [read.seal.tail for read in reads if read.seal], default=0)
        block = plain_free(chip)[0]
        if chip.erase(block) and plain_put(chip, [Head(seq, seq, False)], block, 0):
            return


class PlainStore:

    def __init__(self, chip):
        self.chip, self.now, self.waiting, self.number = chip, meaning(chip), [], last_number(chip) + 1

    def do(self, deed):
        behind = self.now.copy()
        word = behind.do(deed)
        if word is None and living(behind) > bound_of(self.chip):
            word = "full"
        if word is None:
            if len(self.waiting) == 8:
                self.sync()
            self.waiting.append(group(self.now, deed, self.number))
            self.now, self.number = behind, self.number + 1
        return word

    def sync(self):
        for records in self.waiting:
            while True:
                plain_room(self.chip, len(records))
                if plain_put(self.chip, records):
                    break
        self.waiting = []
