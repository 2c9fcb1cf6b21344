"""Points 161 to 165: the bound, room, work and wear."""

from onewaybits import room as module
from onewaybits.blocks import counting
from onewaybits.chip import Chip, image, read_image
from onewaybits.cleaner import clean, clean_step
from onewaybits.errors import InvalidChip, InvalidCount, NoRoom, PowerCut
from onewaybits.groups import living
from onewaybits.meaning import meaning
from onewaybits.room import bound, most_ops, room_left, spread
from onewaybits.store import Store, make_chip_ready
from onewaybits.writer import Writer
from tests.helper import NO_INTS, PointTest, dice, some_mask
from tests.model import some_deed
from tests.test_cleaner import ring
from tests.values import ANY_VALUES
from tests.workshop import SHAPES, WatchedChip, chip_that_cleans, ready_chip, some_useful_deed, worked_chip

SESSION = """
>>> from onewaybits.chip import Chip
>>> from onewaybits.room import bound, most_ops, room_left, spread
>>> from onewaybits.store import Store, make_chip_ready
>>> chip = Chip(8, 8, 1)
>>> make_chip_ready(chip)
>>> store = Store(chip)
>>> [bound(chip), room_left(store), most_ops(chip, 5), spread(chip)]
[20, 20, 61, 1]
>>> [store.do(("file", ("a",))), store.do(("write", ("a",), 0, [7] * 48)), store.do(("write", ("a",), 48, [7] * 48))]
[None, None, None]
>>> [store.do(("file", ("b",))), store.do(("write", ("b",), 0, [7] * 48)), store.do(("write", ("b",), 48, [7] * 48))]
[None, None, None]
>>> [store.do(("dir", ("c",))), store.do(("dir", ("d",))), room_left(store), store.do(("link", ("a",), ("e",)))]
[None, None, 0, 'full']
>>> [store.do(("cut", ("b",), 80)), store.do(("link", ("a",), ("e",))), store.do(("write", ("a",), 90, [1])), room_left(store)]
[None, None, None, 0]
>>> most_ops(chip, 0)
raises InvalidCount(0)
"""
NO_CHIPS = [value for value in ANY_VALUES if not isinstance(value, Chip)]


class RoomTest(PointTest):

    def test_examples(self):
        self.assert_session(SESSION)

    def test_each_name_is_defined_in_its_file(self):
        for name in ("bound", "room_left", "most_ops", "spread"):
            self.assertEqual(getattr(module, name).__module__, module.__name__)

    def test_values_that_are_no_chip(self):
        for wrong in NO_CHIPS:
            self.assert_invalid(InvalidChip, wrong, bound, wrong)
            self.assert_invalid(InvalidChip, wrong, spread, wrong)
            for count in (1, 0, None):
                self.assert_invalid(InvalidChip, wrong, most_ops, wrong, count)

    def test_161_the_bound_of_each_shape(self):
        for blocks in range(8, 25):
            for pages in range(8, 17):
                for bad in range(blocks - 6):
                    chip = Chip(blocks, pages, bad)
                    self.assertEqual(bound(chip=chip), ((blocks - bad - 1) * (pages - 1) - 1) // 2)
                    self.assertLess(2 * bound(chip), (blocks - bad - 1) * (pages - 1))
                    self.assertGreaterEqual(2 * bound(chip) + 2, (blocks - bad - 1) * (pages - 1))

    def test_161_it_asks_for_the_told_number_of_bad_blocks(self):
        chip = worked_chip(dice(161), (10, 8, 3), 40, 0.0, 0.2)
        self.assertGreater(len(chip.bad_blocks()), 0)
        self.assertEqual(bound(chip), 20)

    def test_161_a_round_of_cleaning_gains_a_block(self):
        source = dice(1610)
        for shape in SHAPES * 2:
            chip = chip_that_cleans(source, shape)
            blocks = len(counting(chip))
            self.assertLessEqual(living(meaning(chip)), bound(chip))
            writer = Writer(chip)
            for _ in range(blocks):
                if len(writer.index.blocks) == blocks:
                    clean_step(writer)
            self.assertLess(len(writer.index.blocks), blocks)

    def test_162_room(self):
        source = dice(162)
        for shape in SHAPES:
            store = Store(worked_chip(source, shape))
            for _ in range(40):
                left = room_left(store=store)
                self.assertEqual(left, bound(store.chip) - living(store.tree()))
                tree = store.tree()
                deed = some_useful_deed(source, tree, 1000) if source.random() < 0.5 else some_deed(source, tree)
                behind = store.tree()
                word = behind.do(deed)
                more = living(behind) - living(tree)
                self.assertEqual(store.do(deed), word or ("full" if more > left else None))
                if deed[0] in ("cut", "move", "drop", "let"):
                    self.assertLessEqual(more, 0)

    def test_162_a_chip_that_was_filled_with_more(self):
        for counts, left in (((6, 6, 6, 3), -1), ((6, 6, 6, 6), -4), ((6, 6, 6, 2), 0)):
            store = Store(ring(counts, bad=1))
            self.assertEqual(room_left(store), left)
            self.assertEqual([store.do(("drop", ("none",))), store.do(("file", ("a",)))], ["none", "exists"])
            words = [store.do(("cut", ("a",), 5)), store.do(("move", ("a",), ("z",))), store.do(("drop", ("b",)))]
            self.assertEqual(words, [None] * 3 if left == 0 else (
                ["full"] * 3 if left < -2 else ["full", "full", None]))

    def test_163_one_above_the_bound(self):
        for blocks, pages, bad in ((8, 8, 0), (8, 8, 1), (9, 9, 0), (9, 9, 1), (10, 10, 2), (8, 16, 0), (11, 11, 4)):
            count = blocks - bad - 1
            counts = [(pages - 1) // 2, pages // 2] * count
            counts = counts[:count]
            if count % 2:
                counts[-1] = pages // 2
            chip = ring(tuple(counts), pages=pages, blocks=blocks, bad=bad)
            tree = meaning(chip)
            self.assertEqual((sum(counts), living(tree)), (bound(chip) + 1, bound(chip) + 1))
            writer = Writer(chip)
            self.assertEqual([clean_step(writer) for _ in range(3 * count)], [1] * (3 * count))
            self.assertEqual(len(writer.index.blocks), count)
            chip.log = []
            with self.assertRaises(NoRoom):
                clean(writer)
            self.assertEqual(len([entry for entry in chip.log if isinstance(entry, int)]), count)
            self.assertEqual((meaning(chip), len(counting(chip))), (tree, count))

    def test_163_the_bound_itself(self):
        source = dice(163)
        for blocks, pages, bad in ((8, 8, 0), (8, 8, 1), (9, 9, 1), (10, 10, 2)):
            for _ in range(6):
                count = blocks - bad - 1
                counts = [0] * count
                chip = Chip(blocks, pages, bad)
                while sum(counts) < bound(chip):
                    block = source.randrange(count)
                    counts[block] += counts[block] < pages - 2
                chip = ring(tuple(counts), pages=pages, blocks=blocks, bad=bad)
                tree = meaning(chip)
                clean(Writer(chip))
                self.assertLess(len(counting(chip)), count)
                self.assertEqual(meaning(chip), tree)

    def test_164_the_number(self):
        for blocks, pages, bad in SHAPES + [(24, 16, 0), (24, 16, 17), (8, 8, 1)]:
            for count in range(1, 7):
                self.assertEqual(most_ops(Chip(blocks, pages, bad), count),
                                 (blocks - bad - 1) * (pages + 1) + 2 + count)
        self.assertEqual(most_ops(chip=Chip(8, 8, 0), count=6), 71)
        chip = worked_chip(dice(164), (10, 8, 3), 40, 0.0, 0.2)
        self.assertGreater(len(chip.bad_blocks()), 0)
        self.assertEqual(most_ops(chip, 1), 57)

    def test_164_wrong_counts(self):
        for wrong in NO_INTS + [0, -1, 7, 2 ** 70]:
            self.assert_invalid(InvalidCount, wrong, most_ops, Chip(8, 8, 0), wrong)

    def test_164_how_many_ops_a_group_takes(self):
        source, most = dice(1640), 0
        for shape in SHAPES * 2:
            chip = chip_that_cleans(source, shape)
            store = Store(chip)
            for _ in range(30):
                store.do(some_useful_deed(source, store.tree(), bound(chip)))
                if store.pending():
                    failed = len(chip.bad_blocks())
                    if source.random() < 0.1:
                        chip.fail(chip.ops + source.randrange(12), some_mask(source))
                    ops, chip.log = chip.ops, []
                    store.sync()
                    count = chip.log[-1][2].of
                    failed = len(chip.bad_blocks()) - failed
                    self.assertLessEqual(chip.ops - ops, (failed + 1) * most_ops(chip, count))
                    most = max(most, (chip.ops - ops) * 100 // most_ops(chip, count))
        self.assertGreater(most, 30)

    def test_164_how_many_ops_a_sync_and_a_ninth_deed_take(self):
        source = dice(1641)
        for shape in SHAPES:
            chip = chip_that_cleans(source, shape)
            store = Store(chip)
            for _ in range(60):
                pending, ops = len(store.pending()), chip.ops
                if source.random() < 0.1:
                    store.sync()
                    self.assertLessEqual(chip.ops - ops, pending * most_ops(chip, 6))
                else:
                    store.do(some_useful_deed(source, store.tree(), bound(chip)))
                    self.assertLessEqual(chip.ops - ops, 8 * most_ops(chip, 6) if pending == 8 else 0)

    def test_165_the_spread(self):
        chip = WatchedChip(9, 8, 2)
        self.assertEqual(spread(chip=chip), 0)
        for block, erases in enumerate([2, 3, 5, 3, 2, 4, 9, 3, 2]):
            for _ in range(erases):
                chip.erase(block)
        self.assertEqual(spread(chip), 7)
        chip.fail(chip.ops, 0)
        chip.erase(6)
        self.assertEqual(spread(chip), 3)
        for block in range(9):
            if chip.erases(block) == 2:
                chip.erase(block)
        self.assertEqual((spread(chip), spread(read_image(image(chip)))), (2, 2))

    def test_165_without_cuts_it_is_0_or_1(self):
        source = dice(165)
        for shape in SHAPES + [(12, 8, 5)]:
            chip, seen = WatchedChip(*shape), []
            chip.watch = lambda: seen.append(spread(chip))
            make_chip_ready(chip)
            store = Store(chip)
            for k in range(150):
                if source.random() < 0.06:
                    chip.fail(chip.ops + source.randrange(20), some_mask(source))
                store.do(some_useful_deed(source, store.tree(), bound(chip)))
                if k % 40 == 39:
                    store.sync()
                    make_chip_ready(chip)
                    store = Store(chip)
            self.assertEqual((max(seen), min(seen), chip.cuts), (1, 0, 0))

    def test_165_with_cuts(self):
        source, greatest = dice(1650), 0
        for shape in SHAPES:
            chip, seen = WatchedChip(*shape), []
            chip.watch = lambda: seen.append((spread(chip), chip.cuts))
            make_chip_ready(chip)
            store = Store(chip)
            for _ in range(120):
                if source.random() < 0.1:
                    chip.cut(chip.ops + source.randrange(12), some_mask(source))
                if source.random() < 0.03:
                    chip.fail(chip.ops + source.randrange(12), some_mask(source))
                try:
                    store.do(some_useful_deed(source, store.tree(), bound(chip)))
                except PowerCut:
                    store = Store(chip)
            self.assertEqual([pair for pair in seen if pair[0] > pair[1] + 1], [])
            greatest = max([greatest] + [pair[0] for pair in seen])
        self.assertGreater(greatest, 2)

    def test_165_cuts_of_one_block_again_and_again(self):
        chip = ready_chip()
        store = Store(chip)
        for name in "abc":
            store.do(("dir", (name,)))
        store.sync()
        for k in range(1, 7):
            store = Store(chip)
            store.do(("dir", ("d",)))
            chip.cut(chip.ops + 1, 0)
            with self.assertRaises(PowerCut):
                store.sync()
            self.assertEqual((chip.cuts, chip.erases(1), spread(chip)), (k, k, k))
