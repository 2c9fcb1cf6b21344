"""Points 121 to 128: writers, and what is left of what they do when power is cut or ops fail."""

from onewaybits import writer as module
from onewaybits.blocks import counting, read_block, tail_of
from onewaybits.chip import Chip, image
from onewaybits.errors import (
    InvalidChip, InvalidCount, InvalidNumber, InvalidRecords, NoRoom, NotReady, PowerCut,
)
from onewaybits.groups import group
from onewaybits.index import Index
from onewaybits.meaning import last_number, meaning
from onewaybits.pages import data_of, sealed
from onewaybits.records import Head, Keep, Name, Node, Seal, moved, written
from onewaybits.tree import Tree
from onewaybits.writer import Writer
from tests.chips import chip_with, cleaning_records, lot_sizes, put, some_groups, torn, twin
from tests.helper import HIGHEST_MASK, NO_INTS, PointTest, dice
from tests.plainstore import plain_fits, plain_free
from tests.test_index import all_of
from tests.values import ANY_VALUES
from tests.workshop import (
    SHAPES, WatchedChip, each_cut, keys_on, ready_chip, roomy_chip, some_masks, told_by, worked_chip,
)

SESSION = """
>>> from onewaybits.chip import Chip
>>> from onewaybits.pages import sealed
>>> from onewaybits.records import Head, Name, Node, written
>>> from onewaybits.writer import Writer
>>> chip = Chip(8, 8, 1)
>>> chip.write(6, 0, sealed(written(Head(1, 1, False))))
True
>>> writer = Writer(chip)
>>> [writer.free(), writer.put([Node(1, 0, 2, 2, 1, 0, 0), Name(1, 1, 2, 1, "a", 2)]), writer.fits(4), writer.fits(5)]
[[7, 0, 1, 2, 3, 4, 5], True, True, False]
>>> chip.fail(4, 0)
>>> [writer.open_block(False), chip.bad_blocks(), writer.index.head, writer.open_block(True), writer.free()]
[False, [7], 6, True, [0, 1, 2, 3, 4, 5]]
>>> [writer.put_moved([Node(1, 0, 0, 2, 1, 0, 0), Name(1, 0, 0, 1, "a", 2)]), writer.seal(2, 2), writer.fits(4)]
[True, True, True]
>>> [writer.index.blocks, writer.index.next_page]
[(0,), 4]
"""
NO_CHIPS = [value for value in ANY_VALUES if not isinstance(value, Chip)]
NODE, NAME = Node(1, 0, 2, 2, 1, 0, 0), Name(1, 1, 2, 1, "a", 2)
GROUP = [NODE, NAME]
MOVED = [moved(NODE, 0), moved(NAME, 0)]


def watched_with(blocks, pages=8, count=8, bad=0):
    """Return a watched chip that has these records from the first page of these blocks on."""
    chip = WatchedChip(count, pages, bad)
    for block, records in blocks.items():
        put(chip, block, 0, *records)
    chip.log = []
    return chip


def turn_bad(chip, block):
    """Make a block bad by a write in vain, by which none of its bits turns."""
    chip.fail(chip.ops, 0)
    chip.write(block, 0, [255] * 31)


class WriterTest(PointTest):

    def assert_in_step(self, writer):
        """Check that the index of a writer is as a new one would be."""
        self.assertEqual(all_of(writer.index), all_of(Index(writer.chip)))

    def assert_refused(self, error_class, given, writer, call, *args):
        """Check that a call raises an error and changes nothing."""
        before, index = image(writer.chip), all_of(writer.index)
        self.assert_invalid(error_class, given, call, *args)
        self.assertEqual((image(writer.chip), all_of(writer.index)), (before, index))

    def test_examples(self):
        self.assert_session(SESSION)

    def test_each_name_is_defined_in_its_file(self):
        self.assertEqual(Writer.__module__, module.__name__)
        for name in ("free", "fits", "put", "open_block", "put_moved", "seal"):
            self.assertIn(name, vars(Writer))

    def test_121_values_that_are_no_chip(self):
        for wrong in NO_CHIPS:
            self.assert_invalid(InvalidChip, wrong, Writer, wrong)

    def test_121_chips_that_are_not_ready_or_tell_no_tree(self):
        for chip in (Chip(8, 8, 0), chip_with({3: [Head(4, 4, True), NODE]})):
            with self.assertRaises(NotReady):
                Writer(chip)
        chip = chip_with({3: [Head(1, 1, False), Node(1, 0, 1, 2, 1, 0, 0)]})
        self.assert_invalid(InvalidChip, chip, Writer, chip)

    def test_121_making_a_writer_is_no_op(self):
        source = dice(121)
        for shape in SHAPES:
            chip = worked_chip(source, shape)
            before = image(chip)
            writer = Writer(chip=chip)
            self.assertEqual(image(chip), before)
            self.assertIs(writer.chip, chip)
            self.assertIs(type(writer.index), Index)
            self.assertIs(writer.index.chip, chip)
            self.assert_in_step(writer)

    def test_121_the_index_is_as_a_new_one_behind_each_call(self):
        source, calls = dice(1210), 0
        for shape in SHAPES * 2:
            chip = worked_chip(source, shape, 20)
            writer = Writer(chip)
            index = writer.index
            for _ in range(25):
                if source.random() < 0.3:
                    chip.fail(chip.ops + source.randrange(3), source.choice(some_masks(source)))
                calls += self.some_call(writer, source)
                self.assertIs(writer.index, index)
                self.assert_in_step(writer)
            self.assertEqual(chip.against_the_rules, [])
        self.assertGreater(calls, 150)

    def some_call(self, writer, source):
        """Let a writer do one of all that it may do; return how many calls were none in vain."""
        index, word = writer.index, source.choice(["put", "plain", "clean", "free"])
        if word == "put":
            records = some_groups(source, 1, index.tree(), index.next_number)[1][0]
            if writer.fits(len(records)):
                writer.put(records)
                return 1
        elif word == "plain" and len(writer.free()) > 3:
            writer.open_block(False)
            return 1
        elif word == "clean" and writer.free() and lot_sizes(writer.chip):
            records = cleaning_records(writer.chip, source.choice(lot_sizes(writer.chip)))
            if writer.open_block(True):
                self.assert_in_step(writer)
                if writer.put_moved(records[1:-1]):
                    self.assert_in_step(writer)
                    writer.seal(records[-1].tail, records[-1].count)
            return 1
        else:
            self.assertEqual(writer.free(), plain_free(writer.chip))
        return 0

    def test_121_behind_a_cut_the_index_tells_what_it_told(self):
        source = dice(1211)
        for shape in SHAPES[:3]:
            chip = roomy_chip(source, shape)
            calls = [lambda writer: writer.open_block(False), lambda writer: writer.open_block(True)]
            records = some_groups(source, 1, meaning(chip), last_number(chip) + 1)[1][0]
            if Writer(chip).fits(len(records)):
                calls.append(lambda writer: writer.put(records))
            if lot_sizes(chip):
                calls.append(self.some_cleaning(chip))
            for call in calls:
                keys = keys_on(chip)
                before = told_by(Index(chip), keys)
                for mask in some_masks(source):
                    for k in range(len(self.log_of(chip, call))):
                        other = twin(chip)
                        writer = Writer(other)
                        other.cut(other.ops + k, mask)
                        with self.assertRaises(PowerCut) as caught:
                            call(writer)
                        self.assertEqual(caught.exception.op, chip.ops + k)
                        self.assertEqual(told_by(writer.index, keys), before)

    def some_cleaning(self, chip):
        records = cleaning_records(chip, lot_sizes(chip)[-1])

        def call(writer):
            if writer.open_block(True) and writer.put_moved(records[1:-1]):
                writer.seal(records[-1].tail, records[-1].count)
        return call

    def log_of(self, chip, call):
        other = twin(chip)
        other.log = []
        call(Writer(other))
        return other.log

    def test_122_the_round(self):
        for head, around in ((3, [4, 5, 6, 7, 0, 1, 2]), (0, [1, 2, 3, 4, 5, 6, 7]), (7, [0, 1, 2, 3, 4, 5, 6])):
            writer = Writer(chip_with({head: [Head(1, 1, False)]}))
            self.assertEqual(writer.free(), around)
        chip = chip_with({3: [Head(3, 1, False)], 6: [Head(1, 1, False)], 1: [Head(2, 1, False)],
                          0: [Head(9, 9, True)], 4: [None, NODE]}, bad=1)
        turn_bad(chip, 5)
        writer = Writer(chip)
        self.assertEqual((writer.index.blocks, writer.free()), ((6, 1, 3), [4, 7, 0, 2]))
        writer.free().append(9)
        self.assertEqual(writer.free(), [4, 7, 0, 2])
        self.assertIs(type(writer.free()), list)

    def test_122_bad_blocks_are_not_free_and_may_be_none(self):
        chip = chip_with({block: [Head(block + 1, 1, False)] for block in range(7)}, bad=1)
        writer = Writer(chip)
        self.assertEqual(writer.free(), [7])
        chip.fail(chip.ops, 0)
        self.assertEqual((writer.open_block(False), writer.free()), (False, []))

    def test_122_used_chips(self):
        source = dice(122)
        for shape in SHAPES * 3:
            chip = worked_chip(source, shape)
            self.assertEqual(Writer(chip).free(), plain_free(chip))

    def test_123_plain_and_cleaning_heads(self):
        for pages in (8, 16):
            for is_cleaning, end in ((False, pages - 1), (True, pages)):
                seal = [Seal(1, 0)] if is_cleaning else []
                writer = Writer(chip_with({2: [Head(1, 1, is_cleaning)] + seal}, pages=pages))
                page = 1 + len(seal)
                for count in range(1, pages - 1):
                    self.assertIs(writer.fits(count=count), page + count <= end, (pages, is_cleaning, count))
                put(writer.chip, 2, page, Keep(9, 0, 1, "k", True))
                writer.index.read_again()
                self.assertEqual([count for count in range(1, pages - 1) if writer.fits(count)],
                                 list(range(1, end - page)))

    def test_123_a_full_block_and_a_torn_page(self):
        chip = chip_with({2: [Head(1, 1, False)]})
        chip.write(2, 5, torn([255] * 31))
        self.assertEqual([Writer(chip).fits(count) for count in (1, 2, 6)], [True, False, False])
        chip.write(2, 7, torn([255] * 31))
        self.assertFalse(Writer(chip).fits(1))

    def test_123_nothing_fits_into_a_bad_head(self):
        chip = chip_with({2: [Head(1, 1, False)]}, bad=1)
        writer = Writer(chip)
        self.assertTrue(writer.fits(6))
        turn_bad(chip, 2)
        self.assertEqual([writer.fits(count) for count in range(1, 7)], [False] * 6)

    def test_123_used_chips(self):
        source = dice(123)
        for shape in SHAPES * 2:
            chip = worked_chip(source, shape)
            for count in range(1, chip.pages - 1):
                self.assertIs(Writer(chip).fits(count), plain_fits(chip, count))

    def test_123_wrong_counts(self):
        for pages in (8, 16):
            writer = Writer(chip_with({2: [Head(1, 1, False)]}, pages=pages))
            for wrong in NO_INTS + [0, -1, pages - 1, 2 ** 70]:
                self.assert_refused(InvalidCount, wrong, writer, writer.fits, wrong)

    def test_124_the_pages_in_order(self):
        chip = watched_with({2: [Head(1, 1, False)]})
        writer = Writer(chip)
        self.assertIs(writer.put(records=GROUP), True)
        self.assertEqual(chip.log, [(2, 1, NODE), (2, 2, NAME)])
        self.assertEqual([chip.read(2, page) for page in (1, 2)], [sealed(written(record)) for record in GROUP])
        keep = Keep(2, 0, 1, "k", True)
        self.assertIs(writer.put((keep,)), True)
        self.assertEqual(chip.log[2:], [(2, 3, keep)])
        self.assertEqual(read_block(chip, 2).records, [(1, NODE), (2, NAME), (3, keep)])

    def test_124_behind_a_seal_up_to_the_last_page(self):
        chip = watched_with({2: [Head(1, 1, True)] + MOVED + [Seal(1, 2)]})
        writer = Writer(chip)
        tree = writer.index.tree()
        records = group(tree, ("write", ("a",), 0, [1] * 48), 5)
        self.assertIs(writer.put(records), True)
        self.assertEqual([entry[:2] for entry in chip.log], [(2, 4), (2, 5), (2, 6), (2, 7)])
        self.assert_refused(InvalidRecords, GROUP, writer, writer.put, GROUP)

    def test_124_wrong_records(self):
        writer = Writer(chip_with({2: [Head(1, 1, False)]}))
        many = [Keep(1, at, 6, "k", True) for at in range(6)]
        wrongs = ANY_VALUES + [
            [], (), [NODE], [NAME], [NAME, NODE], [NODE, NODE], [NODE, Name(2, 1, 2, 1, "a", 2)], MOVED, MOVED[:1],
            [Node(1, 0, 3, 2, 1, 0, 0), Name(1, 1, 3, 1, "a", 2)], [NODE, Name(1, 1, 3, 1, "a", 2)], [NODE, None],
            [NODE, NAME, NAME], [Head(1, 1, False)], [Seal(1, 0)], many + many[:1], many[:5], [NODE, [NAME]], GROUP * 2,
            {"a": NODE}, [Keep(1, 0, 1, "k", True), Keep(1, 0, 1, "k", True)],
        ]
        for wrong in wrongs:
            self.assert_refused(InvalidRecords, wrong, writer, writer.put, wrong)
        self.assertTrue(writer.put([NODE, NAME]))

    def test_124_records_that_do_not_fit(self):
        five = [Keep(1, at, 5, "k", True) for at in range(5)]
        chip = chip_with({2: [Head(1, 1, False), Keep(1, 0, 1, "o", True)]}, bad=1)
        writer = Writer(chip)
        six = [Keep(2, at, 6, "k", True) for at in range(6)]
        self.assert_refused(InvalidRecords, six, writer, writer.put, six)
        self.assertTrue(writer.put(five))
        one = [Keep(2, 0, 1, "k", True)]
        self.assert_refused(InvalidRecords, one, writer, writer.put, one)
        chip = chip_with({2: [Head(1, 1, False)]}, bad=1)
        writer = Writer(chip)
        turn_bad(chip, 2)
        self.assert_refused(InvalidRecords, one, writer, writer.put, one)

    def test_124_a_failure_at_each_op(self):
        for pages in (8, 16):
            for wrong in range(2):
                for mask in (0, 1, HIGHEST_MASK - 1, HIGHEST_MASK):
                    chip = watched_with({2: [Head(1, 1, False)]}, pages=pages, bad=1)
                    writer = Writer(chip)
                    chip.fail(chip.ops + wrong, mask)
                    self.assertIs(writer.put(GROUP), False)
                    self.assertEqual(chip.log, [(2, 1, NODE), (2, 2, NAME)][:wrong + 1])
                    counts = wrong == 1 and mask == HIGHEST_MASK
                    self.assertEqual((chip.bad_blocks(), writer.index.tree().listing(())), ([2], ["a"] * counts))
                    self.assertEqual([writer.fits(count) for count in range(1, 7)], [False] * 6)
                    self.assertEqual((writer.index.head, writer.index.next_number),
                                     (2, 2 if wrong == 1 or mask == HIGHEST_MASK else 1))
                    self.assert_in_step(writer)

    def test_125_a_plain_block(self):
        chip = watched_with({6: [Head(5, 3, False)], 7: [Head(1, 1, False), NODE], 4: [Head(3, 3, False)]})
        writer = Writer(chip)
        self.assertIs(writer.open_block(is_cleaning=False), True)
        self.assertEqual(chip.log, [7, (7, 0, Head(6, 3, False))])
        self.assertEqual((writer.index.blocks, writer.index.head, writer.index.seq, writer.index.next_page),
                         ((4, 6, 7), 7, 6, 1))
        self.assertIs(writer.open_block(False), True)
        self.assertEqual(chip.log[2:], [0, (0, 0, Head(7, 3, False))])

    def test_125_a_cleaning_block_does_not_count_yet(self):
        chip = watched_with({6: [Head(5, 5, False)]})
        writer = Writer(chip)
        before, index = writer.free(), all_of(writer.index)
        self.assertIs(writer.open_block(True), True)
        self.assertEqual(chip.log, [7, (7, 0, Head(6, 5, True))])
        self.assertEqual((writer.free(), all_of(writer.index)), (before, index))

    def test_125_however_many_count(self):
        chip = watched_with({block: [Head(block + 1, 1, False)] for block in range(7)})
        writer = Writer(chip)
        self.assertIs(writer.open_block(False), True)
        self.assertEqual((counting(chip), writer.free()), ([0, 1, 2, 3, 4, 5, 6, 7], []))
        for is_cleaning in (True, False):
            before = image(chip)
            with self.assertRaises(NoRoom):
                writer.open_block(is_cleaning)
            self.assertEqual(image(chip), before)
        for wrong in (0, 1, None, "", [], 2, Tree()):
            self.assert_refused(InvalidNumber, wrong, writer, writer.open_block, wrong)

    def test_125_values_that_are_neither_true_nor_false(self):
        writer = Writer(chip_with({6: [Head(5, 5, False)]}))
        for wrong in [value for value in ANY_VALUES if not isinstance(value, bool)]:
            self.assert_refused(InvalidNumber, wrong, writer, writer.open_block, wrong)

    def test_125_failures(self):
        for is_cleaning in (False, True):
            for wrong in range(2):
                for mask in (0, 5, HIGHEST_MASK - 1, HIGHEST_MASK):
                    chip = watched_with({6: [Head(5, 5, False), NODE, NAME], 7: [Head(2, 2, False), NODE]}, bad=1)
                    writer = Writer(chip)
                    index = all_of(writer.index)
                    chip.fail(chip.ops + wrong, mask)
                    self.assertIs(writer.open_block(is_cleaning), False)
                    self.assertEqual(chip.log, [7, (7, 0, Head(6, 5, is_cleaning))][:wrong + 1])
                    self.assertEqual((chip.bad_blocks(), writer.free()), ([7], [0, 1, 2, 3, 4, 5]))
                    if wrong == 1 and mask == HIGHEST_MASK and not is_cleaning:
                        self.assertEqual((writer.index.blocks, writer.index.next_page), ((6, 7), 1))
                        self.assertFalse(writer.fits(1))
                    else:
                        self.assertEqual(all_of(writer.index), index)
                        self.assertTrue(writer.fits(4))
                    self.assert_in_step(writer)
                    with self.assertRaises(NotReady):
                        writer.put_moved([])

    def test_126_moved_records_and_the_seal(self):
        chip = watched_with({6: [Head(5, 5, False), NODE, NAME]})
        writer = Writer(chip)
        self.assertTrue(writer.open_block(True))
        chip.log = []
        index = all_of(writer.index)
        for records, entries in ((MOVED[:1], [(7, 1, MOVED[0])]), ((), []), (MOVED[1:], [(7, 2, MOVED[1])])):
            chip.log = []
            self.assertIs(writer.put_moved(records=records), True)
            self.assertEqual((chip.log, all_of(writer.index)), (entries, index))
        chip.log = []
        self.assertIs(writer.seal(tail=6, count=2), True)
        self.assertEqual(chip.log, [(7, 3, Seal(6, 2))])
        self.assertEqual((writer.index.blocks, writer.index.tail, writer.index.next_page), ((7,), 6, 4))
        self.assertEqual((writer.free(), writer.fits(4), writer.fits(5)), ([0, 1, 2, 3, 4, 5, 6], True, False))

    def test_126_the_tail_tells_what_counts_no_more(self):
        blocks = {block: [Head(4 + block, 4, False)] for block in range(3)}
        for tail, left in ((4, (0, 1, 2, 3)), (5, (1, 2, 3)), (6, (2, 3)), (7, (3,))):
            writer = Writer(watched_with(blocks))
            writer.open_block(True)
            for wrong in NO_INTS + [3, 8, 0, -1, 2 ** 40]:
                self.assert_refused(InvalidNumber, wrong, writer, writer.seal, wrong, None)
            self.assertTrue(writer.seal(tail, 0))
            self.assertEqual((writer.index.blocks, writer.index.tail), (left, tail))
            self.assertEqual(tail_of(writer.chip), tail)

    def test_126_wrong_counts_of_a_seal(self):
        for count in (0, 1, 2):
            writer = Writer(watched_with({6: [Head(5, 5, False)] + GROUP}))
            writer.open_block(True)
            writer.put_moved(MOVED[:count])
            for wrong in NO_INTS + [-1, count + 1, count - 1, 14, 2 ** 70]:
                self.assert_refused(InvalidCount, wrong, writer, writer.seal, 5, wrong)
            self.assertTrue(writer.seal(5, count))

    def test_126_wrong_moved_records(self):
        writer = Writer(watched_with({6: [Head(5, 5, False)] + GROUP}))
        writer.open_block(True)
        wrongs = [value for value in ANY_VALUES if value not in ([], ())]
        wrongs += [GROUP, [NODE], [MOVED[0], NAME], [Head(1, 1, False)], [Seal(1, 0)], [MOVED[0], None], MOVED[:1] * 7]
        for wrong in wrongs:
            self.assert_refused(InvalidRecords, wrong, writer, writer.put_moved, wrong)
        self.assertTrue(writer.put_moved(MOVED * 3))
        wrong = MOVED[:1]
        self.assert_refused(InvalidRecords, wrong, writer, writer.put_moved, wrong)
        self.assertTrue(writer.put_moved([]))
        self.assertTrue(writer.seal(6, 6))
        self.assertEqual((writer.index.next_page, writer.fits(1)), (8, False))

    def test_126_a_block_takes_all_pages_but_two(self):
        for pages in (8, 16):
            writer = Writer(watched_with({6: [Head(5, 5, False)]}, pages=pages))
            writer.open_block(True)
            records = [moved(Node(1, 0, 1, 2 + k, 1, 0, 0), 9) for k in range(pages - 1)]
            self.assert_refused(InvalidRecords, records, writer, writer.put_moved, records)
            self.assertTrue(writer.put_moved(records[:pages - 3]))
            self.assert_refused(InvalidRecords, records, writer, writer.put_moved, records)
            self.assertTrue(writer.put_moved(records[:1]))
            self.assertTrue(writer.seal(6, pages - 2))

    def assert_not_filling(self, writer):
        before = image(writer.chip)
        for call, args in ((writer.put_moved, ([],)), (writer.put_moved, (None,)), (writer.seal, (5, 0)),
                           (writer.seal, (None, None))):
            with self.assertRaises(NotReady):
                call(*args)
        self.assertEqual(image(writer.chip), before)

    def test_126_no_block_is_being_filled(self):
        chip = watched_with({6: [Head(5, 5, False)] + GROUP}, bad=1)
        writer = Writer(chip)
        self.assert_not_filling(writer)
        writer.open_block(True)
        self.assert_not_filling(Writer(chip))
        writer.open_block(False)
        self.assert_not_filling(writer)
        writer.open_block(True)
        writer.put_moved(MOVED)
        chip.fail(chip.ops, 0)
        self.assertIs(writer.seal(6, 2), False)
        self.assert_not_filling(writer)
        writer.open_block(True)
        writer.put_moved(MOVED)
        self.assertIs(writer.seal(6, 2), True)
        self.assert_not_filling(writer)

    def test_126_what_leaves_a_block_being_filled(self):
        chip = watched_with({block: [Head(block + 1, 1, False)] for block in range(6)})
        writer = Writer(chip)
        writer.open_block(True)
        self.assertTrue(writer.put(GROUP))
        self.assert_refused(InvalidNumber, 0, writer, writer.open_block, 0)
        self.assert_refused(InvalidRecords, None, writer, writer.put_moved, None)
        self.assert_refused(InvalidNumber, None, writer, writer.seal, None, 0)
        self.assert_refused(InvalidCount, 3, writer, writer.seal, 1, 3)
        self.assertTrue(writer.put_moved([]))
        self.assertTrue(writer.seal(1, 0))
        self.assertEqual(writer.index.blocks, (0, 1, 2, 3, 4, 5, 6))
        writer.open_block(False)
        with self.assertRaises(NoRoom):
            writer.open_block(True)
        self.assert_not_filling(writer)

    def test_126_opening_again_begins_anew(self):
        chip = watched_with({6: [Head(5, 5, False)] + GROUP})
        writer = Writer(chip)
        writer.open_block(True)
        writer.put_moved(MOVED[:1])
        chip.log = []
        self.assertTrue(writer.open_block(True))
        self.assertTrue(writer.put_moved(MOVED))
        self.assertEqual(chip.log, [7, (7, 0, Head(6, 5, True)), (7, 1, MOVED[0]), (7, 2, MOVED[1])])
        self.assertTrue(writer.seal(6, 2))

    def test_126_failures(self):
        for wrong in range(3):
            for mask in (0, 3, HIGHEST_MASK - 1, HIGHEST_MASK):
                chip = watched_with({6: [Head(5, 5, False)] + GROUP}, bad=1)
                writer = Writer(chip)
                index = all_of(writer.index)
                writer.open_block(True)
                chip.log = []
                chip.fail(chip.ops + wrong, mask)
                self.assertIs(writer.put_moved(MOVED), wrong == 2)
                if wrong == 2:
                    self.assertIs(writer.seal(6, 2), False)
                self.assertEqual(chip.log, [(7, 1, MOVED[0]), (7, 2, MOVED[1]), (7, 3, Seal(6, 2))][:wrong + 1])
                if wrong == 2 and mask == HIGHEST_MASK:
                    self.assertEqual((writer.index.blocks, writer.index.next_page), ((7,), 4))
                    self.assertFalse(writer.fits(1))
                    self.assertEqual(writer.free(), [0, 1, 2, 3, 4, 5, 6])
                else:
                    self.assertEqual(all_of(writer.index), index)
                    self.assertEqual(writer.free(), [0, 1, 2, 3, 4, 5])
                self.assert_in_step(writer)
                self.assert_not_filling(writer)

    def test_127_the_meaning_at_each_moment(self):
        source = dice(127)
        for shape in SHAPES[:4] + [(24, 16, 2)]:
            chip = roomy_chip(source, shape)
            tree, seen = meaning(chip), []
            number = last_number(chip) + source.choice([1, 1, 7])
            tree.next_id += source.choice([0, 3])
            behind, groups = some_groups(source, 1, tree.copy(), number)
            writer = Writer(chip)
            while not writer.fits(len(groups[0])):
                writer.open_block(False)
            chip.watch = lambda: seen.append(meaning(chip))
            self.assertTrue(writer.put(groups[0]))
            self.assertEqual(seen, [tree] * (len(groups[0]) - 1) + [behind])
            seen.clear()
            self.assertTrue(writer.open_block(False))
            self.some_cleaning(chip)(writer)
            self.assertEqual(seen, [behind] * len(seen))
            chip.watch = None

    def test_127_cuts_and_failures(self):
        source = dice(1270)
        for shape in SHAPES[:4]:
            chip = roomy_chip(source, shape)
            writer = Writer(chip)
            tree = meaning(chip)
            behind, groups = some_groups(source, 1, tree.copy(), last_number(chip) + 1)
            while not writer.fits(len(groups[0])):
                writer.open_block(False)
            page = writer.index.next_page
            for other in each_cut(chip, lambda other: Writer(other).put(groups[0]), source):
                last = other.read(writer.index.head, page + len(groups[0]) - 1)
                is_whole = data_of(last) is not None
                self.assertEqual(meaning(other), behind if is_whole else tree)
            cleaning = self.some_cleaning(chip)
            for call in (lambda other: Writer(other).open_block(False), lambda other: cleaning(Writer(other))):
                for other in each_cut(chip, call, source):
                    self.assertEqual(meaning(other), tree)

    def test_127_the_very_records_once_more(self):
        source = dice(1271)
        for wrong in range(3):
            for mask in some_masks(source):
                chip = ready_chip(8, 8, 1)
                writer = Writer(chip)
                writer.put(GROUP)
                records = group(meaning(chip), ("write", ("a",), 10, [7] * 20), 2)
                behind = meaning(chip)
                behind.do(("write", ("a",), 10, [7] * 20))
                chip.fail(chip.ops + wrong, mask)
                self.assertFalse(writer.put(records))
                seen = []
                chip.watch = lambda: seen.append(meaning(chip) == behind)
                is_there = meaning(chip) == behind
                self.assertEqual(is_there, wrong == 2 and mask == HIGHEST_MASK)
                self.assertTrue(writer.open_block(False))
                self.assertTrue(writer.put(records))
                self.assertEqual(seen, [is_there] * 4 + [True])

    def test_128_pages_are_clean_when_they_are_written(self):
        source = dice(128)
        for shape in SHAPES:
            chip = worked_chip(source, shape, 60, 0.2, 0.05)
            self.assertEqual(chip.against_the_rules, [])

    def test_128_what_pages_tell_however_often_power_is_cut(self):
        source = dice(1280)
        for shape in SHAPES[:4]:
            chip = worked_chip(source, shape, 0)
            writer, written_last, tears = Writer(chip), {}, 0
            for _ in range(120):
                chip.log = []
                if source.random() < 0.4:
                    chip.cut(chip.ops + source.randrange(4), source.choice(some_masks(source)))
                try:
                    self.some_call(writer, source)
                except PowerCut:
                    writer = Writer(chip)
                for entry in chip.log:
                    if not isinstance(entry, int):
                        written_last[entry[:2]] = written(entry[2])
                for (block, page), data in written_last.items():
                    told = data_of(chip.read(block, page))
                    self.assertIn(told, (data, None))
                    tears += told is None
                if not writer.free():
                    break
            self.assertGreater(tears, 0)
            self.assertEqual(chip.against_the_rules, [])
