"""Desks: chips under names, on which lines are done and taken back."""

from onewaybits.charts import chart
from onewaybits.chip import Chip, image, is_bad_count, is_block_count, is_page_count
from onewaybits.deeds import SYNC, number_in_word, read_deed
from onewaybits.errors import InvalidLine, NothingToUndo, NoThing, PowerCut, TooMany
from onewaybits.kinds import is_list, is_mask, is_name
from onewaybits.meaning import meaning
from onewaybits.store import Store, make_chip_ready
from onewaybits.tree import Tree

MOST_CHIPS = 4
# The numbers of ops are just those with so many digits, and no number of a shape has more.
MOST_DIGITS = 3
# No mask has more digits.
MOST_DIGITS_OF_MASK = 1234

MAKING = "chip"
STEP = "step"
POWER = "power"
FAILS = "fails"
CUT = "cut"


class Drive:
    """A chip with its store, and the deeds of which the tree of the store has come."""

    def __init__(self, blocks, pages, bad):
        self.chip = Chip(blocks, pages, bad)
        make_chip_ready(self.chip)
        self.store = Store(self.chip)
        self.done = []
        # So many of these no later cut takes back.
        self.sure = 0

    def answer_to(self, step):
        """Do a step and return its answer."""
        try:
            return self._try_step(step)
        except PowerCut:
            self._begin_again()
            return CUT

    def plan(self, word, ops, mask):
        """Plan a cut or a failure for the op that is so many ops behind the next one."""
        if word == POWER:
            self.chip.cut(self.chip.ops + ops, mask)
        else:
            self.chip.fail(self.chip.ops + ops, mask)

    def _try_step(self, step):
        if step[0] == SYNC:
            self.store.sync()
            self.sure = len(self.done)
            return None
        word = self.store.do(step)
        if word is None:
            self.done.append(step)
        return word

    def _begin_again(self):
        """Open the chip anew behind a cut, and let those deeds go that it does not mean."""
        self.store = Store(self.chip)
        whole = meaning(self.chip).whole()
        tree = Tree()
        for deed in self.done[:self.sure]:
            tree.do(deed)
        while tree.whole() != whole:
            tree.do(self.done[self.sure])
            self.sure += 1
        self.done = self.done[:self.sure]


class Desk:
    """At most four chips under names, and the lines that were done with them."""

    def __init__(self):
        self._drives = {}
        self._lines = []

    def __len__(self):
        return len(self._lines)

    def do(self, line):
        """Do what a line asks for and return its answer."""
        order = _order_told_by(line)
        if order is None:
            raise InvalidLine(line)
        word, name, parts = order
        answer = self._answer_to(word, name, parts)
        self._lines.append(line)
        return answer

    def deeds(self, name):
        """Return the deeds of which the tree of a store has come."""
        return list(self._drive(name).done)

    def names(self):
        """Return the names under which chips are, ascending."""
        return sorted(list(self._drives))

    def tree(self, name):
        """Return a copy of the tree of a store."""
        return self._drive(name).store.tree()

    def image(self, name):
        """Return the image of a chip."""
        return image(self._drive(name).chip)

    def chart(self, name):
        """Return the chart of a chip."""
        return chart(self._drive(name).chip)

    def lines(self):
        """Return the lines that were done and not taken back."""
        return list(self._lines)

    def undo(self):
        """Take the last line back."""
        if len(self._lines) == 0:
            raise NothingToUndo()
        # The lines tell all that there is, plans and pending deeds too, so what a line did needs not be known.
        before = read_desk(self._lines[:-1])
        self._drives = before._drives
        self._lines = before._lines

    def _drive(self, name):
        if not is_name(name) or name not in self._drives:
            raise NoThing(name)
        return self._drives[name]

    def _answer_to(self, word, name, parts):
        if word == MAKING:
            self._put_chip(name, parts)
            return None
        drive = self._drive(name)
        if word == STEP:
            return drive.answer_to(parts)
        ops, mask = parts
        drive.plan(word, ops, mask)
        return None

    def _put_chip(self, name, shape):
        if name not in self._drives and len(self._drives) == MOST_CHIPS:
            raise TooMany(MOST_CHIPS + 1)
        blocks, pages, bad = shape
        self._drives[name] = Drive(blocks, pages, bad)


def read_desk(lines):
    """Return a new desk that has done these lines."""
    if not is_list(lines):
        raise InvalidLine(lines)
    desk = Desk()
    for line in lines:
        desk.do(line)
    return desk


def _order_told_by(value):
    """Return the tuple (word, name, parts) of what a line asks for, or None for a value that is no line."""
    if not isinstance(value, str):
        return None
    words = value.split(" ")
    if words[0] == MAKING:
        return _making_told_by(words[1:])
    name, _, rest = value.partition(": ")
    if not is_name(name):
        return None
    words = rest.split(" ")
    if words[0] in (POWER, FAILS):
        return _planning_told_by(name, words)
    return _step_told_by(name, rest)


def _making_told_by(words):
    if len(words) != 4 or not is_name(words[0]):
        return None
    blocks, pages, bad = [number_in_word(word, MOST_DIGITS) for word in words[1:]]
    if not is_block_count(blocks) or not is_page_count(pages) or not is_bad_count(bad, blocks):
        return None
    return (MAKING, words[0], (blocks, pages, bad))


def _planning_told_by(name, words):
    if len(words) != 3:
        return None
    ops = number_in_word(words[1], MOST_DIGITS)
    mask = number_in_word(words[2], MOST_DIGITS_OF_MASK)
    if ops is None or not is_mask(mask):
        return None
    return (words[0], name, (ops, mask))


def _step_told_by(name, line):
    try:
        return (STEP, name, read_deed(line))
    except InvalidLine:
        return None
