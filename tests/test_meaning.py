"""Points 101 to 108: which records count, the tree that a chip means, and what cuts leave of it."""

from onewaybits import meaning as module
from onewaybits.blocks import counting, read_block, tail_of
from onewaybits.chip import Chip, image
from onewaybits.errors import InvalidChip, NotReady, PowerCut
from onewaybits.groups import group, living, tree_of
from onewaybits.meaning import counting_records, last_number, meaning
from onewaybits.pages import is_whole, sealed
from onewaybits.records import Chunk, Head, Keep, Name, Node, Seal, moved, written
from onewaybits.tree import Tree
from onewaybits.versions import needed
from tests.chips import (
    answer, chip_with, cleaning_records, clean_blocks, clean_pages, is_regular, is_sound, lot_sizes, masks, plan_some,
    put,
    record_on, some_groups, some_record, some_sound_chip, told, torn, try_op, twin, used_chip,
)
from tests.helper import PointTest, dice
from tests.plain import ids_of, is_in_order
from tests.values import ANY_VALUES

SESSION = """
>>> from onewaybits.chip import Chip
>>> from onewaybits.meaning import counting_records, last_number, meaning
>>> from onewaybits.pages import sealed
>>> from onewaybits.records import Head, Name, Node, written
>>> chip = Chip(8, 8, 0)
>>> [chip.write(5, 0, sealed(written(Head(1, 1, False)))), meaning(chip).picture(), meaning(chip).next_id]
[True, (), 2]
>>> node, name = Node(4, 0, 2, 7, 2, 0, 0), Name(4, 1, 2, 1, "a", 7)
>>> [chip.write(5, 3, sealed(written(name))), meaning(chip).picture(), meaning(chip).next_id, last_number(chip)]
[True, (), 8, 4]
>>> [chip.write(5, 1, sealed(written(node))), meaning(chip).picture(), counting_records(chip) == [node, name]]
[True, ((('a',), 'dir', None, ('a',), ()),), True]
>>> [chip.write(2, 0, sealed(written(Head(3, 3, False)))), meaning(chip).picture(), last_number(chip)]
[True, (), 0]
>>> meaning(Chip(8, 8, 0))
raises NotReady()
"""
FUNCTIONS = [counting_records, meaning, last_number]
HEAD = Head(4, 2, False)
NODE, NAME = Node(7, 0, 2, 5, 1, 0, 0), Name(7, 1, 2, 1, "a", 5)
GONE = [Name(9, 0, 2, 1, "a", 0), Node(9, 1, 2, 5, 0, 0, 0)]


def keep(deed, name):
    return Keep(deed, 0, 1, name, True)


class MeaningTest(PointTest):

    def test_examples(self):
        self.assert_session(SESSION)

    def test_each_function_is_defined_in_its_file(self):
        for function in FUNCTIONS:
            self.assertEqual(function.__module__, module.__name__)

    def test_9_arguments_by_name_and_no_op(self):
        chip = chip_with({3: [HEAD, NODE, NAME]})
        before = image(chip)
        self.assertEqual(counting_records(chip=chip), [NODE, NAME])
        self.assertEqual((meaning(chip=chip).listing(()), last_number(chip=chip)), (["a"], 7))
        self.assertEqual(image(chip), before)

    def test_no_chips(self):
        for wrong in [value for value in ANY_VALUES if not isinstance(value, Chip)]:
            for function in FUNCTIONS:
                self.assert_invalid(InvalidChip, wrong, function, wrong)

    def test_a_chip_on_which_no_block_counts(self):
        unsound = chip_with({3: [Head(4, 1, False), Seal(9, 0)]})
        for chip in (Chip(8, 8, 0), chip_with({3: [Head(4, 1, True), NODE, NAME]}), chip_with({3: [None, HEAD]}),
                     unsound):
            for function in FUNCTIONS:
                with self.assertRaises(NotReady) as caught:
                    function(chip)
                self.assertEqual(vars(caught.exception), {})

    def test_101_counting_records(self):
        other, late = [Node(8, 0, 1, 9, 2, 0, 0), keep(3, "k")], Keep(9, 0, 2, "q", True)
        chip = chip_with({
            6: [Head(2, 2, False), NODE, NAME], 1: [Head(5, 2, False)] + other + [late],
            4: [Head(3, 2, False), keep(2, "z")],
            0: [Head(1, 1, False), keep(1, "no")], 2: [Head(9, 9, True), keep(1, "no")],
        })
        self.assertEqual(counting_records(chip), [NODE, NAME, keep(2, "z")] + other)
        counting_records(chip).clear()
        self.assertEqual(len(counting_records(chip)), 5)
        self.assertIs(type(counting_records(chip)), list)

    def test_101_equal_seqs_are_ordered_by_index(self):
        chip = chip_with({6: [HEAD, keep(1, "a")], 1: [HEAD, keep(1, "b")], 3: [Head(3, 2, False), keep(1, "c")]})
        self.assertEqual([record.name for record in counting_records(chip)], ["c", "b", "a"])

    def test_101_a_full_chip(self):
        records = [keep(deed, "k") for deed in range(1, 16)]
        chip = chip_with({block: [Head(block + 1, 1, False)] + records for block in range(24)}, pages=16, count=24)
        self.assertEqual(counting_records(chip), records * 24)
        self.assertEqual((len(counting_records(chip)), last_number(chip)), (24 * 15, 15))
        self.assertEqual(meaning(chip).kept_names(), ["k"])

    def test_102_the_meaning(self):
        source = dice(102)
        for _ in range(40):
            chip, tree = used_chip(source)
            self.assertEqual(meaning(chip), tree)
            self.assertEqual(meaning(chip).kept_names(), tree.kept_names())
            told_ids = ids_of([record for block in counting(chip) for _, record in read_block(chip, block).all_records])
            self.assertEqual(meaning(chip).next_id, max(told_ids) + 1)
            self.assertEqual(meaning(chip), tree_of(counting_records(chip), meaning(chip).next_id))

    def test_102_a_new_tree_on_each_call(self):
        chip = chip_with({3: [HEAD, NODE, NAME]})
        tree = meaning(chip)
        self.assertIs(type(tree), Tree)
        tree.do(("drop", ("a",)))
        self.assertEqual(meaning(chip).listing(()), ["a"])

    def test_102_next_ids(self):
        self.assertEqual(meaning(chip_with({3: [HEAD]})).next_id, 2)
        self.assertEqual(meaning(chip_with({3: [HEAD, keep(4, "k")]})).next_id, 2)
        self.assertEqual(meaning(chip_with({3: [HEAD, NODE, NAME]})).next_id, 6)
        for record in (Node(9, 1, 2, 300, 1, 0, 0), Name(9, 1, 2, 300, "q", 0), Name(9, 1, 2, 2, "q", 300),
                       Chunk(9, 1, 2, 300, 0, [0] * 16)):
            self.assertEqual(meaning(chip_with({3: [HEAD, NODE, NAME, record]})).next_id, 301)
            counted = [HEAD, NODE, NAME]
            self.assertEqual(meaning(chip_with({3: counted, 4: [Head(1, 1, False), record]})).next_id, 6)
            self.assertEqual(meaning(chip_with({3: counted, 4: [Head(9, 9, True), record]})).next_id, 6)
            self.assertEqual(meaning(chip_with({3: counted, 4: [Head(9, 1, False), record]})).next_id, 301)
        self.assertEqual(meaning(chip_with({3: [HEAD, Name(9, 1, 2, 1, "q", 0)]})).next_id, 2)
        self.assertEqual(meaning(chip_with({3: [HEAD, Node(9, 1, 2, 65535, 1, 0, 0)]})).next_id, 65536)

    def test_102_records_that_tell_no_tree(self):
        lost = [Node(7, 0, 1, 5, 1, 0, 0)]
        four = [keep(deed, name) for deed, name in enumerate("abcd", 1)]
        for records in (lost, [Name(7, 0, 1, 1, "a", 5)], four, [Node(7, 0, 2, 5, 2, 0, 0), Name(7, 1, 2, 5, "a", 5)],
                        [NODE, NAME, Node(8, 0, 1, 5, 1, 3, 1)],
                        [NODE, NAME, keep(9, "k"), keep(8, "q")] + lost + [keep(7, "z")]):
            chip = chip_with({3: [HEAD] + records})
            if records[0] == NODE and len(records) > 3:
                self.assertEqual(meaning(chip).kept_names(), ["k", "q", "z"])
            else:
                self.assert_invalid(InvalidChip, chip, meaning, chip)
            self.assertEqual(counting_records(chip), records)
            self.assertEqual(last_number(chip), max(record.deed for record in records))

    def test_102_three_keeps_and_a_fourth(self):
        keeps = [keep(deed, name) for deed, name in enumerate("abc", 1)]
        chip = chip_with({3: [HEAD] + keeps})
        self.assertEqual(meaning(chip).kept_names(), ["a", "b", "c"])
        put(chip, 3, 4, keep(5, "d"))
        self.assert_invalid(InvalidChip, chip, meaning, chip)
        put(chip, 3, 5, Keep(6, 0, 1, "b", False))
        self.assertEqual(meaning(chip).kept_names(), ["a", "c", "d"])

    def test_102_of_equal_deeds_the_last_one_in_the_list(self):
        blocks = {6: [Head(2, 1, False), NODE, NAME], 1: [Head(5, 1, False), Node(7, 0, 1, 5, 1, 30, 0)]}
        self.assertEqual(meaning(chip_with(blocks)).size_of(("a",)), 30)
        blocks[1][0] = Head(1, 1, False)
        self.assertEqual(meaning(chip_with(blocks)).size_of(("a",)), 0)
        blocks[1][0] = Head(2, 1, False)
        self.assertEqual(meaning(chip_with(blocks)).size_of(("a",)), 0)

    def test_103_the_last_number(self):
        self.assertEqual(last_number(chip_with({3: [HEAD]})), 0)
        self.assertEqual(last_number(chip_with({3: [HEAD, NODE, NAME]})), 7)
        self.assertEqual(last_number(chip_with({3: [HEAD, NODE, NAME, Node(300, 1, 2, 9, 1, 0, 0)]})), 300)
        self.assertEqual(last_number(chip_with({3: [HEAD, NODE, NAME, moved(NAME, 500), moved(NODE, 20)]})), 500)
        self.assertEqual(last_number(chip_with({3: [HEAD, NODE, NAME], 5: [Head(9, 1, True), moved(NAME, 500)]})), 7)
        self.assertEqual(last_number(chip_with({3: [HEAD, NODE, NAME], 5: [Head(1, 1, False), moved(NAME, 500)]})), 7)
        self.assertEqual(last_number(chip_with({3: [HEAD, moved(NAME, 2 ** 32 - 1)]})), 2 ** 32 - 1)

    def test_104_not_from_ops_and_what_is_bad(self):
        source = dice(104)
        chip, tree = used_chip(source)
        before = told(chip)
        chip.fail(chip.ops, 0)
        chip.erase(counting(chip)[0])
        chip.cut(chip.ops, 0)
        try_op(chip.erase, counting(chip)[-1])
        chip.cut(chip.ops, 5)
        chip.fail(chip.ops + 1, 5)
        self.assertEqual((told(chip), meaning(chip)), (before, tree))

    def test_104_not_from_pages_that_tell_no_record(self):
        chip = chip_with({3: [HEAD, NODE, NAME], 5: [Head(2, 2, False)]})
        before = told(chip)
        chip.write(5, 1, torn(sealed(written(GONE[0]))))
        chip.write(5, 2, sealed([9] * 30))
        chip.write(3, 4, [0] * 31)
        put(chip, 3, 5, Head(9, 9, False))
        put(chip, 4, 1, *GONE)
        put(chip, 6, 0, Head(9, 9, True), moved(GONE[0], 0))
        self.assertEqual(told(chip), before)

    def test_104_blocks_and_pages_in_any_order(self):
        source = dice(1040)
        seen = {}
        for _ in range(60):
            chip, _ = used_chip(source)
            if source.random() < 0.5:
                # A record less, so that the others may tell no tree.
                chip = self.without_one_record(chip, source)
            self.assertTrue(is_regular(chip))
            other = self.in_another_order(chip, source)
            tree = answer(meaning, chip)
            seen[tree is InvalidChip] = True
            if tree is InvalidChip:
                self.assertIs(answer(meaning, other), InvalidChip)
            else:
                self.assertEqual((meaning(other), meaning(other).next_id), (tree, tree.next_id))
            self.assertEqual(last_number(other), last_number(chip))
        self.assertEqual(len(seen), 2)

    def without_one_record(self, chip, source):
        block = source.choice(counting(chip))
        other = Chip(8, 8, 1)
        pages = [page for page, _ in read_block(chip, block).records]
        gone = source.choice(pages) if pages else None
        for place in range(8):
            for page in range(8):
                if (place, page) != (block, gone):
                    other.write(place, page, chip.read(place, page))
        return other

    def in_another_order(self, chip, source):
        other = Chip(8, 8, 1)
        for block, place in enumerate(source.sample(range(8), 8)):
            pages = [chip.read(block, page) for page in range(8)]
            moving = [page for page in range(1, 8)
                      if isinstance(record_on(chip, block, page), (Node, Name, Chunk, Keep, type(None)))]
            for page, there in zip(moving, source.sample(moving, len(moving))):
                pages[there] = chip.read(block, page)
            for page, octets in enumerate(pages):
                other.write(place, page, octets)
        return other

    def some_group_at(self, chip, source):
        """Return the tree behind a deed, its group at what a chip means, and clean pages of a counting block for it."""
        tree = meaning(chip)
        tree.next_id += source.choice([0, 0, 3])
        number = last_number(chip) + source.choice([1, 1, 50])
        behind, groups = some_groups(source, 1, tree.copy(), number)
        for block in counting(chip):
            pages = clean_pages(chip, block)
            if len(pages) >= len(groups[0]):
                return behind, groups[0], block, source.sample(pages, len(groups[0]))
        return None

    def test_105_a_group(self):
        source, count = dice(105), 0
        while count < 60:
            chip, tree = used_chip(source)
            found = self.some_group_at(chip, source)
            if found is None:
                continue
            count += 1
            behind, records, block, pages = found
            next_id = meaning(chip).next_id
            places = list(zip(pages, records))
            source.shuffle(places)
            for page, record in places:
                self.assertEqual(meaning(chip), tree)
                self.assertTrue(meaning(chip).next_id >= next_id)
                put(chip, block, page, record)
            self.assertEqual((meaning(chip), last_number(chip)), (behind, records[0].deed))
            makes = max(ids_of(records)) >= next_id
            self.assertEqual(meaning(chip).next_id, behind.next_id if makes else next_id)

    def test_105_records_of_the_group_in_another_block_too(self):
        source, count = dice(1050), 0
        while count < 40:
            chip, tree = used_chip(source)
            found, blocks = self.some_group_at(chip, source), clean_blocks(chip)
            if found is None or not blocks:
                continue
            behind, records, block, pages = found
            count += 1
            put(chip, blocks[0], 0, Head(read_block(chip, counting(chip)[-1]).head.seq + 1, tail_of(chip), False))
            some = source.sample(records, len(records) - 1)
            put(chip, blocks[0], 1, *some)
            for page, record in zip(pages, records):
                self.assertEqual(meaning(chip), tree)
                put(chip, block, page, record)
            self.assertEqual(meaning(chip), behind)
            put(chip, blocks[0], 1 + len(some), *[record for record in records if record not in some])
            self.assertEqual((meaning(chip), last_number(chip)), (behind, records[0].deed))

    def test_106_moved_records(self):
        source = dice(106)
        for _ in range(40):
            chip, tree = used_chip(source)
            if source.random() < 0.3:
                chip = self.without_one_record(chip, source)
            before = told(chip)[:3]
            for block in counting(chip):
                for page in clean_pages(chip, block)[:3]:
                    records = counting_records(chip)
                    if records:
                        record = source.choice(records)
                        put(chip, block, page, moved(record, record.until))
                        self.assertEqual(told(chip)[:3], before)

    def test_107_blocks_that_go(self):
        source, count = dice(107), 0
        while count < 60:
            chip, tree = used_chip(source, steps=source.randrange(1, 25))
            sizes, blocks = lot_sizes(chip), clean_blocks(chip)
            if not sizes or not blocks:
                continue
            count += 1
            size, block, counted = source.choice(sizes), blocks[0], counting(chip)
            records = cleaning_records(chip, size)
            before = told(chip)
            for page, record in enumerate(records):
                self.assertEqual((told(chip), counting(chip)), (before, counted))
                put(chip, block, page, record)
            self.assertEqual(counting(chip), counted[size:] + [block])
            self.assertEqual((meaning(chip), tail_of(chip)), (tree, records[-1].tail))
            self.assertTrue(is_regular(chip) and is_sound(chip))
            self.assertTrue(is_in_order(counting_records(chip)))

    def test_107_the_whole_tree_in_one_block(self):
        tree = Tree()
        chip, page = chip_with({2: [Head(3, 3, False)]}), 1
        for number, deed in enumerate([("dir", ("a",)), ("keep", "k"), ("move", ("a",), ("b",))], 1):
            records = group(tree, deed, number)
            put(chip, 2, page, *records)
            tree.do(deed)
            page += len(records)
        records = cleaning_records(chip, 1)
        self.assertEqual(records, [
            Head(4, 3, True), moved(Node(1, 0, 2, 2, 2, 0, 0), 0), Name(1, 0, 0, 1, "a", 2, 3),
            Keep(2, 0, 0, "k", True),
            Name(3, 0, 0, 1, "b", 2), Seal(4, 4),
        ])
        put(chip, 5, 0, *records)
        self.assertEqual((counting(chip), meaning(chip), meaning(chip).kept("k").listing(())), ([5], tree, ["a"]))
        self.assertEqual(len(needed(counting_records(chip))), 4)
        self.assertLessEqual(4, living(tree))

    def test_108_cuts(self):
        source, count = dice(108), 0
        while count < 8:
            chip, _ = used_chip(source, steps=source.randrange(1, 25))
            sizes, blocks, found = lot_sizes(chip), clean_blocks(chip), self.some_group_at(chip, source)
            if not sizes or not blocks or found is None:
                continue
            count += 1
            _, records, block, pages = found
            copy = twin(chip)
            self.check_cuts(copy, source, [(block, page, record) for page, record in zip(pages, records)])
            lines = enumerate(cleaning_records(chip, sizes[-1]))
            self.check_cuts(twin(chip), source, [(blocks[0], page, record) for page, record in lines])

    def check_cuts(self, chip, source, writes):
        """Check each of these writes by some masks on a chip like this one, and do it."""
        for block, page, record in writes:
            octets = sealed(written(record))
            behind = twin(chip)
            behind.write(block, page, octets)
            before, due = told(chip), told(behind)
            for mask in masks(source)[1:8]:
                copy = twin(chip)
                plan_some(copy, source, mask)
                try_op(copy.write, block, page, octets)
                self.assertEqual(told(copy), due if is_whole(copy.read(block, page)) else before)
            chip.write(block, page, octets)

    def test_108_any_sound_chip(self):
        source = dice(1080)
        for _ in range(12):
            chip = some_sound_chip(source)
            before = told(chip)
            for block in range(8):
                for page in clean_pages(chip, block)[:2]:
                    self.check_cuts(twin(chip), source, [(block, page, some_record(source))])
                if block not in counting(chip):
                    copy = twin(chip)
                    plan_some(copy, source)
                    try_op(copy.erase, block)
                    self.assertEqual(told(copy), before)

    def test_108_a_cut_tells_its_op(self):
        chip = chip_with({3: [HEAD, NODE, NAME]})
        chip.cut(3, 2 ** 60 - 1)
        with self.assertRaises(PowerCut):
            chip.write(3, 3, sealed(written(GONE[0])))
        self.assertEqual((meaning(chip).listing(()), last_number(chip)), (["a"], 7))
