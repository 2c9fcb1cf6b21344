"""Room and wear: how much a chip can keep, what it takes to write there, and how evenly its blocks are worn."""

from onewaybits.chip import Chip
from onewaybits.errors import InvalidChip, InvalidCount
from onewaybits.groups import living
from onewaybits.kinds import is_int_from
from onewaybits.records import MOST_RECORDS

FULL = "full"


def bound(chip):
    """Return the greatest measure of a tree that is sure to have room on a chip."""
    return (_most_blocks(chip) * (chip.pages - 1) - 1) // 2


def room_left(store):
    """Return by how much the measure of the tree of a store may grow."""
    return bound(store.chip) - living(store.tree())


def most_ops(chip, count):
    """Return the greatest number of ops that a store does to write a group of so many records if none of them fails."""
    most_blocks = _most_blocks(chip)
    if not is_int_from(count, 1, MOST_RECORDS):
        raise InvalidCount(count)
    return most_blocks * (chip.pages + 1) + 2 + count


def spread(chip):
    """Return by how much the erases of good blocks differ."""
    _check_chip(chip)
    erases = [chip.erases(block) for block in range(chip.blocks) if not chip.is_bad(block)]
    return max(erases) - min(erases)


def answer_and_tree(chip, tree, deed):
    """Return the word by which a deed is refused at a tree of a chip, or None, and the tree behind it, a new one."""
    behind = tree.copy()
    word = behind.do(deed)
    if word is None and living(behind) > bound(chip):
        return FULL, tree.copy()
    return word, behind


def _check_chip(chip):
    if not isinstance(chip, Chip):
        raise InvalidChip(chip)


def _most_blocks(chip):
    """Return how many blocks of a chip count at most."""
    _check_chip(chip)
    return chip.blocks - chip.bad - 1
