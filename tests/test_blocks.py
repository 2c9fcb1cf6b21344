"""Points 7 and 91 to 98: what blocks tell, which of them count, and what cuts and failures leave of this."""

from onewaybits import blocks as module
from onewaybits.blocks import BlockRead, counting, read_block, tail_of
from onewaybits.chip import Chip, image
from onewaybits.errors import InvalidBlock, InvalidChip
from onewaybits.pages import is_whole, sealed
from onewaybits.records import Chunk, Head, Keep, Name, Node, Seal, moved, written
from tests.chips import (
    blocks_shown, chip_with, clean_blocks, clean_pages, is_sound, masks, plan_some, put, shown, some_groups,
    some_record,
    some_sound_chip, torn, try_op, twin,
)
from tests.helper import NO_INTS, PointTest, dice, some_octets
from tests.values import ANY_VALUES

SESSION = """
>>> from onewaybits.blocks import counting, read_block, tail_of
>>> from onewaybits.chip import Chip
>>> from onewaybits.pages import sealed
>>> from onewaybits.records import Head, Name, Node, Seal, written
>>> chip = Chip(8, 8, 0)
>>> [chip.write(3, 0, sealed(written(Head(2, 1, False)))), counting(chip), tail_of(chip)]
[True, [3], 1]
>>> node, name = Node(7, 0, 2, 2, 2, 0, 0), Name(7, 1, 2, 1, "a", 2)
>>> [chip.write(3, 1, sealed(written(node))), read_block(chip, 3).records]
[True, []]
>>> [chip.write(3, 2, sealed(written(name))), read_block(chip, 3).records == [(1, node), (2, name)]]
[True, True]
>>> [chip.write(5, 0, sealed(written(Head(3, 1, True)))), read_block(chip, 5).stands, counting(chip)]
[True, False, [3]]
>>> [chip.write(5, 4, sealed(written(Seal(3, 0)))), tail_of(chip), counting(chip)]
[True, 3, [5]]
>>> read_block(chip, 8)
raises InvalidBlock(8)
"""
NO_CHIPS = [value for value in ANY_VALUES if not isinstance(value, Chip)]
HEAD = Head(4, 2, False)
NODE, NAME = Node(7, 0, 2, 2, 1, 0, 0), Name(7, 1, 2, 1, "a", 2)
KEEP = Keep(8, 0, 1, "k", True)


def read_of(*records, bad=0):
    return read_block(chip_with({3: records}, bad=bad), 3)


class BlocksTest(PointTest):

    def assert_read(self, read, head, seal, all_records, records, next_page, stands):
        self.assertIs(type(read), BlockRead)
        self.assertEqual(shown(read), (head, seal, all_records, records, next_page, stands))
        self.assertEqual([type(value) for value in shown(read)[2:]], [list, list, int, bool])
        for told in read.all_records + read.records:
            self.assertIs(type(told), tuple)

    def test_examples(self):
        self.assert_session(SESSION)

    def test_each_name_is_defined_in_its_file(self):
        for name in ("BlockRead", "read_block", "counting", "tail_of"):
            self.assertEqual(getattr(module, name).__module__, "onewaybits.blocks")

    def test_9_arguments_by_name(self):
        chip = chip_with({3: [HEAD]})
        self.assertEqual((read_block(block=3, chip=chip).head, counting(chip=chip), tail_of(chip=chip)), (HEAD, [3], 2))

    def test_91_a_clean_block(self):
        self.assert_read(read_block(Chip(8, 8, 0), 0), None, None, [], [], 0, False)
        self.assert_read(read_block(Chip(24, 16, 0), 23), None, None, [], [], 0, False)

    def test_91_a_block_with_groups(self):
        told = [(1, NODE), (2, NAME), (3, KEEP)]
        self.assert_read(read_of(HEAD, NODE, NAME, KEEP), HEAD, None, told, told, 4, True)
        self.assert_read(read_of(HEAD), HEAD, None, [], [], 1, True)

    def test_91_without_a_head_no_page_tells_anything(self):
        for first in (None, NODE, Seal(1, 0)):
            read = read_of(first, NODE, NAME, HEAD, Seal(1, 0))
            self.assert_read(read, None, None, [], [], 5, False)

    def test_91_a_torn_head_is_none(self):
        for octets in (torn(sealed(written(HEAD))), torn(sealed(written(HEAD)), -1), torn([255] * 31, 7),
                       torn([255] * 31, -1)):
            chip = chip_with({3: [None, NODE, NAME]})
            chip.write(3, 0, octets)
            self.assert_read(read_block(chip, 3), None, None, [], [], 3, False)

    def test_91_heads_in_other_pages_mean_nothing(self):
        other = Head(9, 9, True)
        read = read_of(HEAD, other, NODE, NAME)
        self.assert_read(read, HEAD, None, [(2, NODE), (3, NAME)], [(2, NODE), (3, NAME)], 4, True)
        chip = chip_with({3: [HEAD, other], 4: [None, other]})
        self.assertEqual((counting(chip), tail_of(chip)), ([3], 2))

    def test_91_the_last_seal_is_told(self):
        first, second = Seal(3, 0), Seal(1, 2)
        self.assert_read(read_of(HEAD, first, second), HEAD, second, [], [], 3, True)
        self.assert_read(read_of(HEAD, second, None, first, NODE, NAME), HEAD, first, [(4, NODE), (5, NAME)],
                         [(4, NODE), (5, NAME)], 6, True)
        chip = chip_with({3: [HEAD, first]})
        chip.write(3, 2, torn(sealed(written(second))))
        self.assert_read(read_block(chip, 3), HEAD, first, [], [], 3, True)

    def test_91_pages_that_tell_no_record(self):
        chip = chip_with({3: [HEAD, None, NODE, None, None, NAME]})
        chip.write(3, 1, torn([255] * 31, 9))
        chip.write(3, 3, sealed([0] * 30))
        chip.write(3, 4, sealed([4] + [0] * 29))
        self.assert_read(read_block(chip, 3), HEAD, None, [(2, NODE), (5, NAME)], [(2, NODE), (5, NAME)], 6, True)

    def test_91_next_page(self):
        for page in range(8):
            chip = Chip(8, 8, 0)
            chip.write(3, page, torn([255] * 31, 31 * page % 248))
            self.assertEqual(read_block(chip, 3).next_page, page + 1)
            if page > 0:
                put(chip, 3, 0, HEAD)
                self.assertEqual(read_block(chip, 3).next_page, page + 1)
        self.assertEqual(read_of(*[HEAD] + [KEEP] * 7).next_page, 8)

    def test_91_the_read_is_not_changed_later(self):
        chip = chip_with({3: [HEAD, NODE, NAME]})
        read = read_block(chip, 3)
        before = (HEAD, None, [(1, NODE), (2, NAME)], [(1, NODE), (2, NAME)], 3, True)
        put(chip, 3, 3, Seal(1, 0))
        chip.erase(3)
        self.assertEqual(shown(read), before)
        read.all_records.clear()
        self.assertEqual(shown(read), before[:2] + ([],) + before[3:])
        read.records.append(1)
        self.assertEqual(shown(read_block(chip_with({3: [HEAD, NODE, NAME]}), 3)), before)

    def test_91_reading_is_no_op(self):
        chip = chip_with({3: [HEAD, NODE, NAME]})
        before = image(chip)
        read_block(chip, 3), counting(chip), tail_of(chip)
        self.assertEqual(image(chip), before)

    def test_91_bad_blocks_tell_and_count(self):
        chip = chip_with({3: [HEAD, NODE, NAME]}, bad=1)
        chip.fail(chip.ops, 0)
        chip.erase(3)
        self.assertEqual(chip.bad_blocks(), [3])
        self.assertEqual(read_block(chip, 3).records, [(1, NODE), (2, NAME)])
        self.assertEqual((counting(chip), tail_of(chip)), ([3], 2))

    def test_91_wrong_arguments(self):
        for wrong in NO_CHIPS:
            self.assert_invalid(InvalidChip, wrong, read_block, wrong, None)
            self.assert_invalid(InvalidChip, wrong, counting, wrong)
            self.assert_invalid(InvalidChip, wrong, tail_of, wrong)
        for chip, wrong_blocks in ((Chip(8, 8, 0), [8]), (Chip(24, 8, 0), [24])):
            for wrong in NO_INTS + [-1, 2 ** 70] + wrong_blocks:
                self.assert_invalid(InvalidBlock, wrong, read_block, chip, wrong)

    def test_92_no_block_stands(self):
        for chip in (Chip(8, 8, 0), chip_with({3: [Head(9, 9, True), NODE, NAME]}),
                     chip_with({3: [None, HEAD, Seal(1, 0)]})):
            self.assertEqual((counting(chip), tail_of(chip)), ([], 1))
            self.assertEqual([read_block(chip, block).stands for block in range(8)], [False] * 8)

    def test_92_cleaning_blocks_stand_by_a_seal(self):
        head, seal = Head(5, 2, True), Seal(5, 2)
        self.assert_read(read_of(head, moved(NODE, 0), moved(NAME, 0)), head, None,
                         [(1, moved(NODE, 0)), (2, moved(NAME, 0))],
                         [(1, moved(NODE, 0)), (2, moved(NAME, 0))], 3, False)
        self.assertTrue(read_of(head, moved(NODE, 0), moved(NAME, 0), seal).stands)
        self.assertTrue(read_of(head, None, None, None, None, None, None, seal).stands)
        self.assertFalse(read_of(head, HEAD).stands)

    def test_92_equal_and_unlike_tails(self):
        blocks = {1: [Head(5, 2, False)], 3: [Head(3, 2, False)], 6: [Head(4, 2, False)], 7: [Head(2, 2, False)]}
        chip = chip_with(blocks)
        self.assertEqual((counting(chip), tail_of(chip)), ([7, 3, 6, 1], 2))
        put(chip, 0, 0, Head(6, 4, False))
        self.assertEqual((counting(chip), tail_of(chip)), ([6, 1, 0], 4))
        put(chip, 2, 0, Head(5, 5, False))
        self.assertEqual((counting(chip), tail_of(chip)), ([1, 2, 0], 5))
        put(chip, 4, 0, Head(5, 1, False))
        self.assertEqual((counting(chip), tail_of(chip)), ([1, 2, 4, 0], 5))

    def test_92_blocks_that_do_not_stand_tell_no_tail(self):
        chip = chip_with({1: [Head(2, 1, False)], 3: [Head(9, 9, True)],
                          5: [Head(8, 1, True), None, Seal(3, 0), Seal(2, 0)]})
        self.assertEqual((counting(chip), tail_of(chip)), ([1, 5], 2))

    def test_92_the_tails_of_seals(self):
        chip = chip_with({1: [Head(2, 1, False)], 3: [Head(5, 1, True)]})
        self.assertEqual((counting(chip), tail_of(chip)), ([1], 1))
        put(chip, 3, 4, Seal(2, 0))
        self.assertEqual((counting(chip), tail_of(chip)), ([1, 3], 2))
        put(chip, 3, 5, Seal(3, 0))
        self.assertEqual((counting(chip), tail_of(chip)), ([3], 3))
        put(chip, 3, 6, Seal(1, 0))
        self.assertEqual((counting(chip), tail_of(chip)), ([1, 3], 1))

    def test_92_the_seal_of_a_plain_block_tells_a_tail_too(self):
        chip = chip_with({1: [Head(2, 1, False)], 3: [Head(5, 1, False), Seal(4, 0)]})
        self.assertEqual((counting(chip), tail_of(chip)), ([3], 4))

    def test_92_a_tail_of_blocks_that_do_not_count(self):
        # No sound chip: the block that tells the tail is itself below it.
        chip = chip_with({1: [Head(2, 1, False)], 3: [Head(5, 1, False), Seal(9, 0)]})
        self.assertEqual((counting(chip), tail_of(chip)), ([], 9))
        put(chip, 4, 0, Head(9, 1, False))
        self.assertEqual((counting(chip), tail_of(chip)), ([4], 9))

    def test_92_results_are_new(self):
        chip = chip_with({3: [HEAD]})
        counting(chip).clear()
        self.assertEqual(counting(chip), [3])

    def test_93_whole_groups(self):
        self.assertEqual(read_of(HEAD, NODE).records, [])
        self.assertEqual(read_of(HEAD, NAME).records, [])
        self.assertEqual(read_of(HEAD, NAME, None, NODE).records, [(1, NAME), (3, NODE)])
        group = some_groups(dice(93), 40)[1]
        six = [NODE] + [Node(9, at, 6, at + 2, 0, 0, 0) for at in range(6)]
        self.assertEqual([record for _, record in read_of(HEAD, *six[1:]).records], six[1:])
        for gone in range(1, 7):
            self.assertEqual(read_of(HEAD, *six[1:gone], *six[gone + 1:]).records, [])
        for records in group:
            self.assertEqual([record for _, record in read_of(HEAD, *records).records], records)

    def test_93_another_deed_or_another_of_does_not_fill_a_gap(self):
        other = [Name(6, 1, 2, 1, "a", 2), Name(7, 1, 3, 1, "a", 2), Name(7, 0, 0, 1, "a", 2), Name(7, 0, 2, 1, "a", 2)]
        for record in other:
            counted = [(2, record)] if record.of == 0 else []
            self.assertEqual(read_of(HEAD, NODE, record).records, counted)

    def test_93_what_they_tell_is_not_asked(self):
        anything = Chunk(7, 1, 2, 9, 3, [1] * 16)
        self.assertEqual(read_of(HEAD, NODE, anything).records, [(1, NODE), (2, anything)])
        self.assertEqual(read_of(HEAD, NODE, NODE, NAME, anything).records,
                         [(1, NODE), (2, NODE), (3, NAME), (4, anything)])

    def test_93_moved_records_count_by_themselves(self):
        for record in (moved(NODE, 0), moved(NAME, 99), moved(KEEP, 0)):
            self.assertEqual(read_of(HEAD, record).records, [(1, record)])

    def test_93_a_group_in_two_blocks_is_not_whole(self):
        chip = chip_with({3: [HEAD, NODE], 4: [Head(5, 2, False), NAME]})
        self.assertEqual((read_block(chip, 3).records, read_block(chip, 4).records), ([], []))

    def test_93_records_count_in_a_block_that_does_not_count(self):
        chip = chip_with({3: [Head(1, 1, False), NODE, NAME], 4: [Head(9, 9, False)]})
        self.assertEqual((counting(chip), read_block(chip, 3).records), ([4], [(1, NODE), (2, NAME)]))

    def test_94_amid_a_write(self):
        source = dice(94)
        for _ in range(40):
            chip = some_sound_chip(source)
            block = source.choice([block for block in range(8) if clean_pages(chip, block)[-1:] not in ([], [0])])
            pages = clean_pages(chip, block)
            page = source.choice(pages if len(pages) == 8 else [page for page in pages if page > 0])
            record = some_record(source)
            for mask in masks(source):
                copy = twin(chip)
                before = read_block(copy, block)
                plan_some(copy, source, mask)
                try_op(copy.write, block, page, sealed(written(record)))
                behind = read_block(copy, block)
                if is_whole(copy.read(block, page)):
                    due = before.all_records + ([(page, record)] if before.head else [])
                    self.assertEqual(behind.all_records, sorted(due, key=lambda told: told[0]))
                    self.assertTrue(all(told in behind.records for told in before.records))
                    self.assertEqual((behind.head, behind.seal, behind.stands),
                                     (before.head, before.seal, before.stands))
                else:
                    self.assertEqual(shown(behind)[:4] + (behind.stands,), shown(before)[:4] + (before.stands,))
                    self.assertIn(behind.next_page, (before.next_page, max(before.next_page, page + 1)))

    def test_95_groups_amid_writes(self):
        source = dice(95)
        for _ in range(15):
            groups = some_groups(source, 6)[1]
            records = source.choice(groups)
            start = [HEAD] + [record for record in groups[0]
                              if records[0].deed != groups[0][0].deed][:8 - 1 - len(records)]
            for wrong in range(len(records)):
                chip = chip_with({3: start}, bad=1)
                before = read_block(chip, 3).records
                for at, record in enumerate(records):
                    if at == wrong:
                        plan_some(chip, source)
                    try_op(chip.write, 3, len(start) + at, sealed(written(record)))
                    whole = sum(is_whole(chip.read(3, len(start) + k)) for k in range(len(records)))
                    counted = [told for told in read_block(chip, 3).records if told not in before]
                    due = [(len(start) + k, other) for k, other in enumerate(records)]
                    self.assertEqual(counted, due if whole == len(records) else [])

    def test_96_amid_an_erase(self):
        source = dice(96)
        for _ in range(15):
            chip = some_sound_chip(source)
            self.assertTrue(is_sound(chip))
            for block in range(8):
                for mask in masks(source)[:8]:
                    copy = twin(chip)
                    before = read_block(copy, block)
                    plan_some(copy, source, mask)
                    try_op(copy.erase, block)
                    self.assertTrue(is_sound(copy))
                    behind = read_block(copy, block)
                    for page in range(8):
                        same = copy.read(block, page) == chip.read(block, page)
                        self.assertTrue(same or not is_whole(copy.read(block, page)))
                    self.assertIn(behind.head, (None, before.head))
                    self.assertTrue(all(told in before.records for told in behind.records))
                    self.assertTrue(before.stands or not behind.stands)

    def test_97_blocks_that_do_not_count(self):
        source = dice(97)
        for _ in range(15):
            chip = some_sound_chip(source)
            counted = counting(chip)
            self.assertEqual(counted == [], not any(read_block(chip, block).stands for block in range(8)))
            before = blocks_shown(chip)
            for block in range(8):
                if block not in counted:
                    for mask in masks(source)[:8]:
                        copy = twin(chip)
                        plan_some(copy, source, mask)
                        try_op(copy.erase, block)
                        self.assertEqual(blocks_shown(copy), before)
                    self.check_writing(chip, source, block, before)

    def check_writing(self, chip, source, block, before):
        for page in clean_pages(chip, block):
            copy = twin(chip)
            plan_some(copy, source)
            record = source.choice([some_record(source), Head(9, 9, True), Seal(1, 0)])
            try_op(copy.write, block, page, sealed(written(record)))
            if not read_block(copy, block).stands:
                self.assertEqual(blocks_shown(copy), before)

    def test_97_a_write_of_any_octets_to_a_block_that_does_not_stand(self):
        chip = chip_with({3: [HEAD, NODE, NAME]})
        before = blocks_shown(chip)
        for page in range(8):
            chip.write(5, page, some_octets(dice(page), 31))
            self.assertEqual(blocks_shown(chip), before)

    def test_98_new_blocks(self):
        source = dice(98)
        for _ in range(15):
            chip = some_sound_chip(source)
            for block in clean_blocks(chip)[:2]:
                for is_cleaning in (False, True):
                    self.check_new_block(twin(chip), source, block, is_cleaning)

    def check_new_block(self, chip, source, block, is_cleaning):
        counted, tail, before = counting(chip), tail_of(chip), blocks_shown(chip)
        seqs = {other: read_block(chip, other).head.seq for other in counted}
        seq = max([tail] + list(seqs.values())) + source.randrange(1, 4)
        page = sealed(written(Head(seq, source.randrange(1, tail + 1), is_cleaning)))
        for _ in range(2):
            chip.cut(chip.ops, masks(source)[5])
            if try_op(chip.write, block, 0, page) == "cut" and chip.read(block, 0) != page:
                self.assertEqual(blocks_shown(chip), before)
        chip.write(block, 0, page)
        if not is_cleaning:
            self.assertEqual((counting(chip), tail_of(chip)), (counted + [block], tail))
            return
        self.assertEqual(blocks_shown(chip), before)
        put(chip, block, 1, moved(NODE, 0))
        self.assertEqual(blocks_shown(chip), before)
        new_tail = source.randrange(1, seq + 1)
        put(chip, block, 2, Seal(new_tail, 1))
        self.assertEqual(tail_of(chip), max(tail, new_tail))
        self.assertEqual(counting(chip), [other for other in counted if seqs[other] >= new_tail] + [block])
