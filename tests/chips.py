"""Chips with records on them, for the tests of stages 8 to 10."""

import copy

from onewaybits.blocks import counting, read_block, tail_of
from onewaybits.chip import Chip
from onewaybits.errors import FlashError, PowerCut
from onewaybits.groups import group
from onewaybits.meaning import counting_records, last_number, meaning
from onewaybits.pages import data_of, is_clean, sealed, surplus
from onewaybits.records import Chunk, Head, Keep, Name, Node, Seal, moved, read_record, written
from onewaybits.tree import Tree
from tests.helper import HIGHEST_MASK, bits_of, some_mask
from tests.model import some_deed
from tests.plain import is_in_order, plain_needed, plain_until


def put(chip, block, page, *records):
    """Write records into pages of a block from a page on."""
    for k, record in enumerate(records):
        if not chip.write(block, page + k, sealed(written(record))):
            raise AssertionError((block, page + k))


def chip_with(blocks, pages=8, count=8, bad=0):
    """Return a chip that has these records from the first page of these blocks on; None leaves a page clean."""
    chip = Chip(count, pages, bad)
    for block, records in blocks.items():
        for page, record in enumerate(records):
            if record is not None:
                put(chip, block, page, record)
    return chip


def torn(octets, k=0):
    """Return octets in which the k-th bit that is 1 is 0; a whole page so becomes a torn one."""
    place = [place for place, bit in enumerate(bits_of(octets)) if bit][k]
    left = list(octets)
    left[place // 8] -= 128 >> place % 8
    return left


def twin(chip):
    """Return a new chip that is as this one is, as read_image(image(chip)) would, but faster."""
    other = copy.copy(chip)
    for name, value in vars(chip).items():
        if isinstance(value, (list, dict)):
            setattr(other, name, value.copy())
    return other


def try_op(call, *args):
    """Do an op and return what it returns, or "cut"."""
    try:
        return call(*args)
    except PowerCut:
        return "cut"


def plan_some(chip, source, mask=None):
    """Plan a cut or a failure for the next op of a chip, or nothing."""
    plan = source.choice(["cut", "fail", "none"])
    mask = some_mask(source) if mask is None else mask
    if plan == "cut":
        chip.cut(chip.ops, mask)
    elif plan == "fail":
        chip.fail(chip.ops, mask)


def masks(source):
    """Return some masks, among them those by which few or nearly all of the due bits turn."""
    few = [sum(2 ** source.randrange(60) for _ in range(3)) for _ in range(3)]
    return [0, 1, HIGHEST_MASK, HIGHEST_MASK - 1, HIGHEST_MASK - 2] + few + [some_mask(source) for _ in range(3)]


def is_sound(chip):
    """Tell what point 96 calls a sound chip, worked out apart from the program."""
    for block in range(chip.blocks):
        head = record_on(chip, block, 0)
        for page in range(chip.pages):
            if surplus(chip.read(block, page)) < 0:
                return False
            record = record_on(chip, block, page)
            if isinstance(head, Head) and isinstance(record, Seal) and record.tail > head.seq:
                return False
    return True


def record_on(chip, block, page):
    """Return the record that stands on a page by itself, or None."""
    data = data_of(chip.read(block, page))
    return None if data is None else read_record(data)


def shown(read):
    """Return all that a BlockRead tells."""
    return read.head, read.seal, read.all_records, read.records, read.next_page, read.stands


def blocks_shown(chip):
    """Return the tail of a chip, and which blocks count and what they tell."""
    return tail_of(chip), [(block, shown(read_block(chip, block))) for block in counting(chip)]


def answer(call, *args):
    """Return what a call returns, or the class of the error that it raises."""
    try:
        return call(*args)
    except FlashError as error:
        return type(error)


def told(chip):
    """Return what the functions of stage 9 tell of a chip; two such answers can be compared."""
    tree = answer(meaning, chip)
    return tree, getattr(tree, "next_id", None), answer(last_number, chip), answer(counting_records, chip)


def some_record(source):
    """Return a record of any class, perhaps one of a group that is not there as a whole."""
    deed, of = source.randrange(1, 9), source.choice([0, 1, 2, 2, 3])
    at = source.randrange(of) if of else 0
    until = source.choice([0, deed + 1, deed + 4]) if of == 0 else 0
    return source.choice([
        Node(deed, at, of, source.randrange(2, 6), source.randrange(3), 0, 0, until),
        Name(deed, at, of, 1, source.choice("ab"), source.choice([0, 2, 3]), until),
        Chunk(deed, at, of, 2, 0, [deed] * 16, until), Keep(deed, at, of, "k", deed % 2 == 0, until),
    ])


def some_sound_chip(source):
    """Return a sound chip of which some blocks may tell anything, torn pages among it."""
    chip = Chip(8, 8, 1)
    for block in range(8):
        if source.random() < 0.75:
            seq = source.randrange(1, 9)
            records = [Head(seq, source.randrange(1, seq + 1), source.random() < 0.4)]
            for _ in range(source.randrange(8)):
                records.append(source.choice([
                    some_record(source), some_record(source), Seal(source.randrange(1, seq + 1), source.randrange(5)),
                    Head(source.randrange(8, 20), 8, False),
                ]))
            for page, record in enumerate(records):
                if source.random() < 0.12:
                    chip.cut(chip.ops, some_mask(source))
                try_op(chip.write, block, page, sealed(written(record)))
    chip.clear_plans()
    return chip


def clean_pages(chip, block):
    return [page for page in range(chip.pages) if is_clean(chip.read(block, page))]


def clean_blocks(chip):
    return [block for block in range(chip.blocks) if len(clean_pages(chip, block)) == chip.pages]


def some_groups(source, count, tree=None, number=1):
    """Return the tree behind some deeds that are done, and the groups of these deeds."""
    tree, groups = tree or Tree(), []
    while len(groups) < count:
        deed = some_deed(source, tree)
        records = group(tree, deed, number)
        if records:
            tree.do(deed)
            groups.append(records)
            number += source.choice([1, 1, 3])
    return tree, groups


def places_on(chip):
    """Return the tuples (block, page, record) of the records that count, in the order of point 112."""
    return [(block, page, record) for block in counting(chip) for page, record in read_block(chip, block).records]


def needed_places(chip):
    """Return those of these tuples that are of needed records, with these as moved ones."""
    places = places_on(chip)
    records = [record for _, _, record in places]
    return [(block, page, moved(record, plain_until(records, record)))
            for block, page, record in [places[k] for k in plain_needed(records)]]


def is_regular(chip):
    """Tell what point 104 calls a regular chip."""
    seqs = [read_block(chip, block).head.seq for block in counting(chip)]
    return len(set(seqs)) == len(seqs) and is_in_order(counting_records(chip))


def lot_sizes(chip):
    """Return the numbers of eldest blocks whose needed records find room in a block."""
    counted, needed = counting(chip), needed_places(chip)
    return [count for count in range(1, len(counted) + 1)
            if sum(block in counted[:count] for block, _, _ in needed) <= chip.pages - 2]


def cleaning_records(chip, count):
    """Return the records of a cleaning block for the eldest blocks, so many of them, from its head to its seal."""
    counted = counting(chip)
    seqs = [read_block(chip, block).head.seq for block in counted]
    lot = [record for block, _, record in needed_places(chip) if block in counted[:count]]
    tail = (seqs + [seqs[-1] + 1])[count]
    return [Head(seqs[-1] + 1, tail_of(chip), True)] + lot + [Seal(tail, len(lot))]


def used_chip(source, steps=12, blocks=8, pages=8):
    """Return a chip that was used as a store uses one, with cleaned blocks and torn pages, and the tree it means."""
    chip = Chip(blocks, pages, 1)
    head = source.randrange(blocks)
    put(chip, head, 0, Head(9, 9, False))
    tree, number = Tree(), 1
    for _ in range(steps):
        behind, groups = some_groups(source, 1, tree.copy(), number)
        page = read_block(chip, head).next_page
        if source.random() < 0.2 and page < pages - 2:
            chip.write(head, page, torn([255] * 31, source.randrange(248)))
            page += 1
        if page + len(groups[0]) > pages - 1:
            head = new_block(chip, source)
            page = read_block(chip, head).next_page
        if head is None or page + len(groups[0]) > pages:
            break
        put(chip, head, page, *groups[0])
        tree, number = behind, number + source.choice([1, 1, 4])
    return chip, tree


def new_block(chip, source):
    """Clean the eldest blocks, or begin a new one, as a store does; return the head then, or None without room."""
    head = counting(chip)[-1]
    free = [block for block in range(chip.blocks) if block not in counting(chip)]
    sizes = lot_sizes(chip)
    if not free or len(free) < 3 and not sizes:
        return None
    block = source.choice(free)
    chip.erase(block)
    if len(free) < 3 or sizes and source.random() < 0.4:
        put(chip, block, 0, *cleaning_records(chip, source.choice(sizes)))
    else:
        put(chip, block, 0, Head(read_block(chip, head).head.seq + 1, tail_of(chip), False))
    return block
