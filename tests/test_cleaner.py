"""Points 131 to 136: cleaning, and what is left of it when power is cut or ops fail."""

from onewaybits import cleaner as module
from onewaybits.blocks import counting
from onewaybits.chip import Chip, image
from onewaybits.cleaner import clean, clean_step, eldest, make_room, most_counting
from onewaybits.errors import InvalidChip, InvalidCount, NoRoom
from onewaybits.examiner import findings
from onewaybits.index import Index
from onewaybits.meaning import counting_records, last_number, meaning
from onewaybits.records import Head, Keep, Name, Node, Seal
from onewaybits.store import Store
from onewaybits.writer import Writer
from tests.chips import chip_with, is_regular, needed_places, put, twin
from tests.helper import HIGHEST_MASK, NO_INTS, PointTest, dice
from tests.plainstore import plain_clean, plain_free, plain_lot, plain_room, plain_step
from tests.test_index import all_of
from tests.values import ANY_VALUES
from tests.workshop import (
    SHAPES, WatchedChip, bound_of, chip_that_cleans, each_cut, ops_of, some_masks, some_useful_deed, worked_chip,
)

SESSION = """
>>> from onewaybits.chip import Chip
>>> from onewaybits.cleaner import clean_step, eldest, most_counting
>>> from onewaybits.meaning import meaning
>>> from onewaybits.store import Store, make_chip_ready
>>> from onewaybits.writer import Writer
>>> chip = Chip(8, 8, 1)
>>> make_chip_ready(chip)
>>> store = Store(chip)
>>> store.do(("file", ("a",)))
>>> store.sync()
>>> tree, writer = store.tree(), Writer(chip)
>>> [most_counting(chip), eldest(writer)[0], len(eldest(writer)[1])]
[5, 1, 2]
>>> [clean_step(writer), writer.index.head, writer.index.tail, meaning(chip) == tree]
[1, 1, 2, True]
"""
NO_CHIPS = [value for value in ANY_VALUES if not isinstance(value, Chip)]


def files(first, count, deed):
    """Return the moved records of so many files a, b, c and so on of the root, with ids from one on."""
    records = []
    for k in range(first, first + count):
        records += [Node(deed, 0, 0, k + 2, 1, 0, 0), Name(deed, 0, 0, 1, "abcdefghijklmnopqrstuvwxyz"[k], k + 2)]
    return records


def ring(counts, pages=8, blocks=8, bad=0):
    """Return a chip of which the first blocks count, with so many needed records each, told as moved ones."""
    needed = files(0, sum(counts) // 2, 1)
    if sum(counts) % 2:
        needed.append(Name(1, 0, 0, 1, "zz", 2))
    chip = WatchedChip(blocks, pages, bad)
    for block, count in enumerate(counts):
        part, needed = needed[:count], needed[count:]
        put(chip, block, 0, Head(block + 1, 1, True), *part, Seal(1, count))
    chip.log = []
    return chip


class CleanerTest(PointTest):

    def assert_alike(self, chip, call, plain_call):
        """Check that a call on a chip does the ops of a plainer one, and leaves the same."""
        other = twin(chip)
        chip.log, other.log = [], []
        self.assertEqual(call(chip), plain_call(other))
        self.assertEqual(chip.log, other.log)
        self.assertEqual(image(chip), image(other))
        self.assertEqual(chip.against_the_rules, [])

    def test_examples(self):
        self.assert_session(SESSION)

    def test_each_name_is_defined_in_its_file(self):
        for name in ("most_counting", "eldest", "clean_step", "clean", "make_room"):
            self.assertEqual(getattr(module, name).__module__, module.__name__)

    def test_131_how_many_may_count(self):
        for blocks in range(8, 25):
            for bad in range(blocks - 6):
                self.assertEqual(most_counting(Chip(blocks, 8, bad)), blocks - bad - 2)
        source = dice(131)
        chip = worked_chip(source, (10, 8, 3), 40, 0.0, 0.1)
        self.assertEqual((most_counting(chip=chip), len(chip.bad_blocks()) > 0), (5, True))

    def test_131_values_that_are_no_chip(self):
        for wrong in NO_CHIPS:
            self.assert_invalid(InvalidChip, wrong, most_counting, wrong)

    def test_131_plain_blocks_are_opened_only_where_few_count(self):
        source = dice(1310)
        for shape in SHAPES:
            chip = worked_chip(source, shape, 0)
            store, counts = Store(chip), [len(counting(chip))]
            chip.watch = lambda: counts.append(len(counting(chip)))
            for _ in range(60):
                store.do(some_useful_deed(source, store.tree(), bound_of(chip)))
                store.sync()
            for k, entry in enumerate(chip.log):
                if not isinstance(entry, int) and isinstance(entry[2], Head) and not entry[2].is_cleaning:
                    self.assertLessEqual(counts[k], most_counting(chip))
            self.assertEqual(max(counts), most_counting(chip) + 1)

    def test_132_the_first_one_and_further_ones(self):
        for counts, count in (
            ((6, 0, 1, 2), 2), ((6, 1), 1), ((3, 3, 1), 2), ((3, 4, 1), 1), ((2, 2, 2, 0, 0, 1), 5), ((0, 0, 6), 3),
            ((5, 2, 0), 1), ((0,), 1), ((1, 5), 2), ((4, 0, 2), 3),
        ):
            for blocks in (8, 9):
                chip = ring(counts, blocks=blocks)
                writer = Writer(chip)
                index = Index(chip)
                lot = [record for block in range(count) for record in index.moved_in(block)]
                self.assertEqual([len(index.living_in(block)) for block in range(len(counts))], list(counts))
                self.assertEqual(eldest(writer), (count, lot))
                self.assertEqual((type(eldest(writer)), type(eldest(writer)[1])), (tuple, list))
                self.assertEqual(chip.log, [])

    def test_132_blocks_of_16_pages(self):
        chip = ring((10, 4, 0, 1), pages=16)
        self.assertEqual((eldest(Writer(chip))[0], len(eldest(Writer(chip))[1])), (3, 14))
        chip = ring((10, 5, 0, 1), pages=16)
        self.assertEqual((eldest(Writer(chip))[0], len(eldest(Writer(chip))[1])), (1, 10))

    def test_132_the_first_one_is_always_in_the_lot(self):
        records = [Name(1, 0, 0, 1, name, 2) for name in "abcdef"]
        chip = chip_with({0: [Head(1, 1, False), Node(1, 0, 0, 2, 1, 0, 0)] + records, 1: [Head(2, 1, False)]})
        self.assertEqual((eldest(Writer(chip))[0], len(eldest(Writer(chip))[1])), (1, 7))

    def test_132_used_chips(self):
        source, sizes = dice(132), set()
        for shape in SHAPES * 3:
            chip = worked_chip(source, shape)
            count = plain_lot(chip)
            lot = [record for block, _, record in needed_places(chip) if block in counting(chip)[:count]]
            self.assertEqual(eldest(writer=Writer(chip)), (count, lot))
            sizes.add(count)
        self.assertGreater(len(sizes), 2)

    def test_132_untils(self):
        chip = chip_with({0: [Head(1, 1, False), Node(1, 0, 2, 2, 1, 0, 0), Name(1, 1, 2, 1, "a", 2),
                              Keep(2, 0, 1, "k", True)],
                          1: [Head(2, 1, False), Node(3, 0, 1, 2, 1, 7, 0), Node(4, 0, 1, 2, 1, 9, 0)]})
        self.assertEqual(eldest(Writer(chip)), (2, [
            Node(1, 0, 0, 2, 1, 0, 0, 3), Name(1, 0, 0, 1, "a", 2), Keep(2, 0, 0, "k", True),
            Node(4, 0, 0, 2, 1, 9, 0)]))

    def test_132_the_list_is_new(self):
        writer = Writer(ring((2, 2)))
        eldest(writer)[1].append(1)
        self.assertEqual(len(eldest(writer)[1]), 4)

    def test_133_the_ops_of_a_step(self):
        for counts, count, tail in (((6, 1, 1), 1, 2), ((2, 2, 2, 1), 3, 4), ((2, 2), 2, 3), ((0,), 1, 2)):
            chip = ring(counts)
            writer = Writer(chip)
            _, lot = eldest(writer)
            head, block = Head(len(counts) + 1, 1, True), len(counts)
            self.assertEqual(clean_step(writer), count)
            self.assertEqual(chip.log, [block, (block, 0, head)] + [
                (block, 1 + k, record) for k, record in enumerate(lot)] + [(block, len(lot) + 1, Seal(tail, len(lot)))])
            self.assertEqual(writer.index.blocks, tuple(range(count, len(counts) + 1)))
            self.assertEqual((writer.index.head, writer.index.tail, writer.index.next_page),
                             (block, tail, len(lot) + 2))
            self.assertEqual([writer.fits(k) for k in range(1, 7)], [k + len(lot) <= 6 for k in range(1, 7)])
            self.assertEqual(all_of(writer.index), all_of(Index(chip)))

    def test_133_used_chips(self):
        source, several, every = dice(133), 0, 0
        for shape in SHAPES * 4 + [(24, 16, 2)]:
            chip = worked_chip(source, shape)
            several += plain_lot(chip) > 1
            every += plain_lot(chip) == len(counting(chip))
            tree, blocks = meaning(chip), counting(chip)
            count = plain_lot(chip)
            self.assert_alike(chip, lambda one: clean_step(writer=Writer(one)), plain_step)
            self.assertEqual(counting(chip)[:-1], blocks[count:])
            self.assertEqual(set(blocks[:count]) - set(chip.bad_blocks()) - set(plain_free(chip)), set())
            self.assertEqual((meaning(chip), findings(chip)), (tree, []))
        self.assertGreater(min(several, every), 1)

    def test_133_failures_at_each_op(self):
        source = dice(1330)
        for shape in [(9, 8, 2), (10, 10, 3), (8, 8, 1)]:
            chip = worked_chip(source, shape, 30, 0.0, 0.0)
            tree = meaning(chip)
            ops = ops_of(chip, lambda one: clean_step(Writer(one)))
            for k in range(ops):
                for mask in some_masks(source):
                    other = twin(chip)
                    other.fail(other.ops + k, mask)
                    whole = k == ops - 1 and mask == HIGHEST_MASK
                    self.assert_alike(other, lambda one: clean_step(Writer(one)), plain_step)
                    self.assertEqual(other.ops - chip.ops, ops if whole else ops + k + 1)
                    self.assertEqual((meaning(other), findings(other)), (tree, []))
                    self.assertEqual(len(other.bad_blocks()), 1)
                    self.assertEqual(Writer(other).fits(1) and whole, False)

    def test_133_failures_one_behind_the_other(self):
        source = dice(1331)
        for shape in [(10, 10, 3), (9, 8, 2), (24, 16, 5)] * 3:
            chip = worked_chip(source, shape, 30, 0.0, 0.0)
            tree = meaning(chip)
            ops = ops_of(chip, lambda one: clean_step(Writer(one)))
            at = chip.ops
            for _ in range(chip.bad):
                at += source.randrange(ops)
                chip.fail(at, source.choice(some_masks(source)[:3]))
                at += 1
            self.assert_alike(chip, lambda one: clean_step(Writer(one)), plain_step)
            self.assertEqual((meaning(chip), findings(chip)), (tree, []))

    def test_133_the_same_lot_and_tail_behind_a_failure(self):
        chip = ring((2, 2), blocks=9, bad=2)
        chip.fail(chip.ops + 2, HIGHEST_MASK)
        chip.fail(chip.ops + 4, 0)
        _, lot = eldest(Writer(chip))
        self.assertEqual(clean_step(Writer(chip)), 2)
        head = Head(3, 1, True)
        self.assertEqual(chip.log, [2, (2, 0, head), (2, 1, lot[0]), 3, (3, 0, head), 4, (4, 0, head)] + [
            (4, 1 + k, record) for k, record in enumerate(lot)] + [(4, 5, Seal(3, 4))])
        self.assertEqual((chip.bad_blocks(), counting(chip)), ([2, 3], [4]))

    def test_133_a_seal_that_fails_and_stands(self):
        chip = ring((6, 1, 1), bad=1)
        chip.fail(chip.ops + 8, HIGHEST_MASK)
        writer = Writer(chip)
        self.assertEqual(clean_step(writer), 1)
        self.assertEqual((len(chip.log), chip.bad_blocks(), writer.index.blocks), (9, [3], (1, 2, 3)))
        self.assertFalse(writer.fits(1))
        self.assertEqual(writer.free(), [4, 5, 6, 7, 0])

    def test_133_no_block_is_free(self):
        chip = ring((1, 1, 1, 1, 1, 1, 1, 1))
        before = image(chip)
        with self.assertRaises(NoRoom):
            clean_step(Writer(chip))
        self.assertEqual(image(chip), before)
        chip = ring((1, 1, 1, 1, 1, 1, 1), bad=1)
        chip.fail(chip.ops + 1, 0)
        with self.assertRaises(NoRoom):
            clean_step(Writer(chip))
        self.assertEqual((len(chip.log), chip.bad_blocks(), counting(chip)), (2, [7], [0, 1, 2, 3, 4, 5, 6]))

    def test_133_cuts_at_each_op(self):
        source = dice(1332)
        for shape in [(8, 8, 1), (10, 10, 3), (8, 16, 1)]:
            chip = worked_chip(source, shape, 40)
            tree, count = meaning(chip), plain_lot(chip)
            done = twin(chip)
            clean_step(Writer(done))
            for other in each_cut(chip, lambda one: clean_step(Writer(one)), source):
                self.assertEqual((meaning(other), findings(other)), (tree, []))
                is_sealed = len(counting(other)) == len(counting(done)) and counting(other)[-1] == counting(done)[-1]
                self.assertEqual(len(other.log) == len(done.log) and is_sealed, is_sealed)
                if not is_sealed:
                    self.assertEqual(counting(other), counting(chip))
                    self.assertEqual(plain_lot(other), count)
                self.assert_alike(other, lambda one: clean_step(Writer(one)), plain_step)
                self.assertEqual((meaning(other), findings(other)), (tree, []))

    def test_134_the_meaning_at_each_moment(self):
        source = dice(134)
        for shape in SHAPES * 2:
            chip = worked_chip(source, shape, 40)
            tree, seen = meaning(chip), []
            before = counting_records(chip)
            chip.watch = lambda: seen.append((meaning(chip), counting_records(chip)))
            clean_step(Writer(chip))
            chip.watch = None
            self.assertEqual([records for _, records in seen[:-1]], [before] * (len(seen) - 1))
            self.assertEqual([one for one, _ in seen], [tree] * len(seen))
            self.assertEqual(meaning(chip).whole(), tree.whole())
            self.assertTrue(is_regular(chip))

    def test_134_kept_trees(self):
        source, kept = dice(1340), 0
        for _ in range(12):
            chip = worked_chip(source, (10, 16, 1), 40, 0.02, 0.0)
            store = Store(chip)
            for name in ("x", "y"):
                store.do(("keep", name))
                store.do(some_useful_deed(source, store.tree(), bound_of(chip)))
            store.sync()
            tree = store.tree()
            kept += len(tree.kept_names())
            for _ in range(len(counting(chip)) + 2):
                clean_step(Writer(chip))
                self.assertEqual(meaning(chip).whole(), tree.whole())
        self.assertGreater(kept, 12)

    def test_134_numbers_stay_above_what_counts(self):
        chip = chip_with({0: [Head(1, 1, False), Node(1, 0, 2, 2, 1, 0, 0), Name(1, 1, 2, 1, "a", 2),
                              Name(9, 0, 1, 1, "b", 0)]})
        writer = Writer(chip)
        clean_step(writer)
        self.assertEqual((last_number(chip), writer.index.next_number), (1, 2))

    def test_135_none_if_few_count(self):
        for counts in ((2,), (6, 6, 6), (6, 6, 6, 6, 6, 6)):
            chip = ring(counts)
            self.assertIs(clean(writer=Writer(chip)), None)
            self.assertEqual(chip.log, [])

    def test_135_as_many_steps_as_it_takes(self):
        for counts, left in (
            ((3, 3, 1, 1, 1, 1, 1), [2, 3, 4, 5, 6, 7]),
            ((6, 3, 3, 1, 1, 1, 1), [3, 4, 5, 6, 7, 0]),
            ((6, 6, 6, 6, 6, 3, 1), [7, 0, 1, 2, 3, 4]),
            ((1, 1, 1, 1, 1, 1, 1), [6, 7]),
        ):
            chip = ring(counts)
            tree = meaning(chip)
            self.assert_alike(chip, lambda one: clean(Writer(one)), plain_clean)
            self.assertEqual((counting(chip), meaning(chip)), (left, tree))

    def test_135_it_ends_as_soon_as_few_enough_count(self):
        chip = ring((6, 0, 6, 6, 6, 6, 2))
        self.assertIs(clean(Writer(chip)), None)
        self.assertEqual((counting(chip), len(chip.log)), ([2, 3, 4, 5, 6, 7], 9))

    def test_135_the_last_step_that_may_be_gains_a_block(self):
        chip = ring((1, 6, 1, 6, 1, 6, 1))
        self.assertIs(clean(Writer(chip)), None)
        self.assertEqual(len([entry for entry in chip.log if isinstance(entry, int)]), 7)
        self.assertEqual((len(counting(chip)), chip.log[-1][2]), (6, Seal(9, 2)))

    def test_135_used_chips(self):
        source = dice(135)
        for shape in SHAPES * 2:
            chip = chip_that_cleans(source, shape, 0.02)
            tree, steps = meaning(chip), len(counting(chip))
            self.assert_alike(chip, lambda one: clean(Writer(one)), plain_clean)
            self.assertLessEqual(len(counting(chip)), most_counting(chip))
            self.assertLessEqual(len([entry for entry in chip.log if isinstance(entry, int)]), steps)
            self.assertEqual((meaning(chip), findings(chip)), (tree, []))

    def test_135_cuts_and_failures(self):
        source = dice(1350)
        for shape in [(8, 8, 1), (9, 8, 2)]:
            chip = chip_that_cleans(source, shape)
            tree = meaning(chip)
            for other in each_cut(chip, lambda one: clean(Writer(one)), source):
                self.assertEqual((meaning(other), findings(other)), (tree, []))
                clean(Writer(other))
                self.assertEqual((meaning(other), findings(other)), (tree, []))
                self.assertLessEqual(len(counting(other)), most_counting(other))
            for k in range(ops_of(chip, lambda one: clean(Writer(one)))):
                other = twin(chip)
                other.fail(other.ops + k, source.choice(some_masks(source)))
                self.assert_alike(other, lambda one: clean(Writer(one)), plain_clean)
                self.assertEqual((meaning(other), findings(other)), (tree, []))

    def test_135_in_vain(self):
        for counts, bad in (((4, 3, 4, 3, 4, 3, 4), 0), ((4, 3, 4, 3, 4, 3), 1), ((6, 6, 6, 6, 6, 6, 6), 0)):
            chip = ring(counts, bad=bad)
            tree, steps = meaning(chip), len(counts)
            with self.assertRaises(NoRoom):
                clean(Writer(chip))
            self.assertEqual(len([entry for entry in chip.log if isinstance(entry, int)]), steps)
            self.assertEqual((meaning(chip), len(counting(chip))), (tree, steps))
            self.assertEqual([len(Index(chip).living_in(block)) for block in counting(chip)], list(counts))

    def test_136_room_that_is_there(self):
        chip = ring((2, 2))
        for count in range(1, 5):
            self.assertIs(make_room(writer=Writer(chip), count=count), None)
        self.assertEqual(chip.log, [])

    def test_136_a_plain_block(self):
        for counts in ((2, 2), (1, 1, 1, 1, 1, 5)):
            chip = ring(counts)
            block = len(counts)
            writer = Writer(chip)
            make_room(writer, 6)
            self.assertEqual(chip.log, [block, (block, 0, Head(block + 1, 1, False))])
            self.assertEqual((writer.index.head, writer.fits(6)), (block, True))

    def test_136_cleaning_ahead_of_opening(self):
        chip = ring((3, 3, 1, 1, 1, 1, 4))
        writer = Writer(chip)
        make_room(writer, 3)
        self.assertEqual(counting(chip), [2, 3, 4, 5, 6, 7, 0])
        self.assertEqual(chip.log[-2:], [0, (0, 0, Head(9, 3, False))])
        chip = ring((1, 1, 1, 1, 1, 1, 4))
        make_room(Writer(chip), 2)
        self.assertEqual(counting(chip), [0, 1, 2, 3, 4, 5, 6])
        make_room(Writer(chip), 3)
        self.assertEqual((counting(chip), len([entry for entry in chip.log if isinstance(entry, int)])), ([6, 7, 0], 2))

    def test_136_room_in_the_cleaning_block(self):
        chip = ring((2, 1, 6, 6, 6, 6, 6))
        writer = Writer(chip)
        make_room(writer, 3)
        self.assertEqual((counting(chip), writer.index.head, writer.fits(3), writer.fits(4)),
                         ([2, 3, 4, 5, 6, 7], 7, True, False))
        self.assertEqual([entry for entry in chip.log if isinstance(entry, int)], [7])

    def test_136_used_chips(self):
        source = dice(136)
        for shape in SHAPES * 2:
            for make in (worked_chip, chip_that_cleans):
                chip = make(source, shape)
                tree, count = meaning(chip), source.randrange(1, 7)
                if source.random() < 0.5:
                    for _ in range(chip.bad - len(chip.bad_blocks())):
                        chip.fail(chip.ops + source.randrange(20), source.choice(some_masks(source)))
                self.assert_alike(chip, lambda one: make_room(Writer(one), count), lambda one: plain_room(one, count))
                self.assertTrue(Writer(chip).fits(count))
                self.assertEqual((meaning(chip), findings(chip)), (tree, []))

    def test_136_openings_that_fail(self):
        for mask in (0, 9, HIGHEST_MASK):
            chip = ring((2, 2), blocks=10, bad=3)
            for k in (0, 2, 4):
                chip.fail(chip.ops + k, mask)
            make_room(Writer(chip), 6)
            self.assertEqual([entry for entry in chip.log if isinstance(entry, int)],
                             [2, 3, 4, 5][:1 + len(chip.bad_blocks())])
            self.assertEqual((len(chip.bad_blocks()), Writer(chip).fits(6)), (3, True))
            self.assertEqual(findings(chip), [])

    def test_136_a_head_that_fails_and_stands(self):
        chip = ring((2, 2), blocks=9, bad=1)
        chip.fail(chip.ops + 1, HIGHEST_MASK)
        make_room(Writer(chip), 6)
        self.assertEqual((counting(chip), chip.bad_blocks()), ([0, 1, 2, 3], [2]))
        self.assertEqual(chip.log[1:], [(2, 0, Head(3, 1, False)), 3, (3, 0, Head(4, 1, False))])

    def test_136_cuts(self):
        source = dice(1360)
        for shape in [(8, 8, 1), (10, 10, 3)]:
            chip = chip_that_cleans(source, shape)
            tree = meaning(chip)
            for other in each_cut(chip, lambda one: make_room(Writer(one), 6), source):
                self.assertEqual((meaning(other), findings(other)), (tree, []))
                make_room(Writer(other), 6)
                self.assertEqual((meaning(other), findings(other)), (tree, []))

    def test_136_wrong_counts(self):
        chip = ring((2, 2))
        writer = Writer(chip)
        for wrong in NO_INTS + [0, -1, 7, 2 ** 70]:
            self.assert_invalid(InvalidCount, wrong, make_room, writer, wrong)
            self.assert_invalid(InvalidCount, wrong, make_room, Writer(ring((2, 2), pages=16)), wrong)
        self.assertEqual(chip.log, [])

    def test_136_no_room_comes_through(self):
        chip = ring((4, 3, 4, 3, 4, 3, 6))
        with self.assertRaises(NoRoom):
            make_room(Writer(chip), 1)
        chip = ring((1, 1, 1, 1, 1, 1, 1, 6))
        with self.assertRaises(NoRoom):
            make_room(Writer(chip), 1)
        self.assertEqual(chip.log[-8:], [])
