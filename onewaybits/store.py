"""Stores: a chip that is opened, whose tree deeds change."""

from onewaybits.blocks import counting, free_blocks, read_block
from onewaybits.chip import Chip
from onewaybits.cleaner import make_room
from onewaybits.errors import InvalidChip, InvalidDeed, NoRoom
from onewaybits.groups import group
from onewaybits.pages import sealed
from onewaybits.records import Head, written
from onewaybits.room import answer_and_tree
from onewaybits.tree import is_deed, lasting_deed
from onewaybits.writer import Writer

MOST_PENDING = 8


class Store:
    """The tree of a chip, with the deeds that are done there and not yet written."""

    def __init__(self, chip):
        self._writer = Writer(chip)
        self.chip = chip
        self._tree = self._writer.index.tree()
        self._next_number = self._writer.index.next_number
        # Tuples of a deed and its group.
        self._pending = []

    def do(self, deed):
        """Do a deed and return None, or change nothing and return the word by which it is refused."""
        if not is_deed(deed):
            raise InvalidDeed(deed)
        word, behind = answer_and_tree(self.chip, self._tree, deed)
        if word is not None:
            return word
        if len(self._pending) == MOST_PENDING:
            self.sync()
        self._pending.append((lasting_deed(deed), group(self._tree, deed, self._next_number)))
        self._next_number += 1
        self._tree = behind
        return None

    def pending(self):
        """Return the deeds that are done and not yet written, in order."""
        return [deed for deed, _ in self._pending]

    def tree(self):
        """Return a copy of the tree."""
        return self._tree.copy()

    def sync(self):
        """Write all pending deeds."""
        for _, records in self._pending:
            self._write(records)
        self._pending = []

    def _write(self, records):
        """Write a group; begin anew behind a failure, also if the group stands whole all the same."""
        is_put = False
        while not is_put:
            make_room(self._writer, len(records))
            is_put = self._writer.put(records)


def make_chip_ready(chip):
    """Make the empty tree the meaning of a chip, whatever lies there."""
    if not isinstance(chip, Chip):
        raise InvalidChip(chip)
    is_ready = False
    while not is_ready:
        is_ready = _begin_anew(chip)


def _begin_anew(chip):
    """Open a plain block by which all others stop counting; return whether no op failed."""
    free = free_blocks(chip, counting(chip))
    if len(free) == 0:
        raise NoRoom()
    seq = _greatest_number(chip) + 1
    return chip.erase(free[0]) and chip.write(free[0], 0, sealed(written(Head(seq, seq, False))))


def _greatest_number(chip):
    """Return the greatest seq or tail that the head or the seal of a block tells, counting or not, and 0 for none."""
    numbers = [0]
    for block in range(chip.blocks):
        read = read_block(chip, block)
        if read.head is not None:
            numbers.append(read.head.seq)
            numbers.append(read.head.tail)
        if read.seal is not None:
            numbers.append(read.seal.tail)
    return max(numbers)
