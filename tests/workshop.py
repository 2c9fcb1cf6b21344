"""Chips that stores have worked on, and that tell of each op, for the tests of stages 11 to 16."""

from onewaybits.blocks import counting, read_block
from onewaybits.chip import Chip
from onewaybits.errors import PowerCut
from onewaybits.groups import living
from onewaybits.pages import data_of, is_clean
from onewaybits.records import read_record
from onewaybits.store import Store, make_chip_ready
from tests.chips import twin
from tests.helper import HIGHEST_MASK, some_mask
from tests.model import some_deed

SHAPES = [(8, 8, 0), (8, 8, 1), (9, 8, 2), (8, 9, 1), (10, 10, 3), (8, 16, 1)]


class WatchedChip(Chip):
    """A chip that keeps a log of its ops, and has something looked at behind each of them, cut ones too."""

    def __init__(self, blocks, pages, bad):
        super().__init__(blocks, pages, bad)
        self.log, self.against_the_rules, self.watch = [], [], None

    def write(self, block, page, octets):
        data = data_of(octets)
        if data is None or not is_clean(self.read(block, page)):
            self.against_the_rules.append((self.ops, block, page))
        self.log.append((block, page, None if data is None else read_record(data)))
        return self.watched(super().write, block, page, octets)

    def erase(self, block):
        if self.is_bad(block) or block in counting(self):
            self.against_the_rules.append((self.ops, block))
        self.log.append(block)
        return self.watched(super().erase, block)

    def watched(self, call, *args):
        try:
            return call(*args)
        finally:
            if self.watch is not None:
                self.watch()


def bound_of(chip):
    """Return what point 143 calls the bound."""
    return ((chip.blocks - chip.bad - 1) * (chip.pages - 1) - 1) // 2


def some_useful_deed(source, tree, bound, full=0.0):
    """Return a deed that a tree does, mostly one that does not make it smaller, now and then one that is full."""
    for _ in range(60):
        deed, behind = some_deed(source, tree), tree.copy()
        if behind.do(deed) is None and (living(behind) <= bound or source.random() < full):
            if living(behind) >= living(tree) or source.random() < 0.3:
                return deed
    return deed


def ready_chip(blocks=8, pages=8, bad=0):
    chip = WatchedChip(blocks, pages, bad)
    make_chip_ready(chip)
    return chip


def worked_chip(source, shape=None, deeds=None, cuts=0.05, fails=0.03):
    """Return a chip that stores have worked on, perhaps with cuts and failures, and behind which all is synced."""
    chip = ready_chip(*(shape or source.choice(SHAPES)))
    store = Store(chip)
    for _ in range(source.randrange(1, 90) if deeds is None else deeds):
        if source.random() < cuts:
            chip.cut(chip.ops + source.randrange(30), some_mask(source))
        if source.random() < fails:
            chip.fail(chip.ops + source.randrange(30), some_mask(source))
        try:
            store.do(some_useful_deed(source, store.tree(), bound_of(chip)))
        except PowerCut:
            store = Store(chip)
    chip.clear_plans()
    store.sync()
    chip.log = []
    return chip


def chip_that_cleans(source, shape=None, fails=0.0):
    """Return a chip of a store on which one more block counts than may, so that cleaning comes next."""
    while True:
        chip = worked_chip(source, shape, 40, 0.0, fails)
        store = Store(chip)
        while len(counting(chip)) == chip.blocks - chip.bad - 1 or chip.ops < 60:
            store.do(some_useful_deed(source, store.tree(), bound_of(chip)))
            store.sync()
            if len(counting(chip)) == chip.blocks - chip.bad - 1:
                chip.log = []
                return chip


def ops_of(chip, call):
    """Return how many ops a call does on a chip, which stays as it is."""
    other = twin(chip)
    call(other)
    return other.ops - chip.ops


def some_masks(source):
    """Return a mask for none of the due bits, some for a part of them, and one for all."""
    return [0, source.randrange(2 ** 40), source.randrange(2 ** 4096), HIGHEST_MASK]


def is_cut(call, *args):
    """Do a call and tell whether power was cut amid it."""
    try:
        call(*args)
    except PowerCut:
        return True
    return False


def each_cut(chip, call, source):
    """Return, for each op of a call and some masks, a chip on which this op was cut by the mask."""
    found = []
    for k in range(ops_of(chip, call)):
        for mask in some_masks(source):
            other = twin(chip)
            other.cut(other.ops + k, mask)
            if not is_cut(call, other):
                raise AssertionError((k, mask))
            found.append(other)
    return found


def roomy_chip(source, shape):
    """Return a worked chip of which at least four good blocks do not count."""
    while True:
        chip = worked_chip(source, shape, source.randrange(5, 40))
        if chip.blocks - len(set(counting(chip)) | set(chip.bad_blocks())) > 3:
            return chip


def keys_on(chip):
    """Return the keys of all tree records on a chip."""
    return sorted({record.key() for block in range(chip.blocks) for _, record in read_block(chip, block).all_records})


def told_by(index, keys):
    """Return all that an index tells, with the places of these keys."""
    return (
        index.blocks, index.head, index.seq, index.tail, index.next_page, index.next_number, index.next_id,
        [index.place_of(key) for key in keys],
        [(index.living_in(block), index.moved_in(block)) for block in range(index.chip.blocks)], index.tree().whole(),
    )
