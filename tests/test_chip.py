"""Points 4, 8, 9 and 31 to 38: chips."""

from onewaybits.chip import Chip, image
from onewaybits.errors import (
    InvalidBlock, InvalidMask, InvalidOctets, InvalidOp, InvalidPage, InvalidShape, PowerCut,
)
from onewaybits.octets import falls, rises
from tests.helper import (
    HIGHEST_MASK, NO_INTS, NO_OCTETS, PointTest, dice, some_mask, some_octets, turned,
)

SESSION = """
>>> from onewaybits.chip import Chip, image, read_image
>>> chip = Chip(8, 8, 1)
>>> page = [15] + [255] * 30
>>> chip.fail(0, 5)
>>> [chip.write(2, 0, page), chip.read(2, 0)[:2], chip.bad_blocks(), chip.ops]
[False, (95, 255), [2], 1]
>>> chip.fail(1, 5)
>>> [chip.write(3, 0, page), chip.read(3, 0)[0], chip.erase(2), chip.erases(2), chip.read(2, 0)[0]]
[True, 15, False, 0, 95]
>>> copy = read_image(image(chip))
>>> [copy.erase(3), copy.erases(3), chip.erases(3), copy.read(3, 0)[0], len(image(chip)), image(chip)[:7]]
[True, 1, 0, 255, 2035, (8, 8, 1, 0, 0, 0, 3)]
>>> chip.cut(3, 2)
>>> chip.erase(3)
raises PowerCut(3)
"""
CLEAN = [255] * 31
DARK = [0] * 31
METHODS = ["read", "write", "erase", "erases", "cut", "fail", "clear_plans", "is_bad", "bad_blocks"]


def contents(chip):
    return [[chip.read(block, page) for page in range(chip.pages)] for block in range(chip.blocks)]


class PlainChip:
    """What points 31 to 36 tell, told anew page by page, to compare a Chip with."""

    def __init__(self, blocks, pages, bad):
        self.rows = [[tuple(CLEAN)] * pages for _ in range(blocks)]
        self.most_bad, self.ops, self.cuts = bad, 0, 0
        self.bad, self.erased, self.cut_plans, self.fail_plans = [], [0] * blocks, {}, {}

    def write(self, block, page, octets):
        rows = list(self.rows[block])
        rows[page] = tuple(was & octet for was, octet in zip(rows[page], octets))
        return self.do(block, rows)

    def erase(self, block):
        self.erased[block] += block not in self.bad
        return self.do(block, [tuple(CLEAN)] * len(self.rows[block]))

    def do(self, block, rows):
        op, good = self.ops, block not in self.bad
        self.ops += 1
        if op in self.cut_plans:
            self.cuts += 1
            if good:
                self.rows[block] = self.left(block, rows, self.cut_plans[op])
            return "cut"
        if good and op in self.fail_plans and len(self.bad) < self.most_bad:
            self.rows[block] = self.left(block, rows, self.fail_plans[op])
            self.bad = sorted(self.bad + [block])
            return False
        if good:
            self.rows[block] = rows
        return good

    def left(self, block, rows, mask):
        octets = turned(sum(self.rows[block], ()), sum(rows, ()), mask)
        return [octets[start:start + 31] for start in range(0, len(octets), 31)]


class ChipTest(PointTest):

    def assert_cut(self, op, call, *args):
        with self.assertRaises(PowerCut) as caught:
            call(*args)
        self.assertEqual(vars(caught.exception), {"op": op})

    def assert_refused(self, chip, error_class, given, call, *args):
        """Check that a call raises an error, and that neither the chip nor its plans are changed."""
        before = image(chip)
        self.assert_invalid(error_class, given, call, *args)
        self.assertEqual(image(chip), before)

    def test_examples(self):
        self.assert_session(SESSION)

    def test_each_listed_method_is_defined_in_the_class(self):
        for name in METHODS:
            self.assertIn(name, vars(Chip))
        self.assertEqual((Chip.__module__, image.__module__), ("onewaybits.chip", "onewaybits.chip"))

    def test_31_shapes(self):
        for shape in ((8, 8, 0), (8, 16, 1), (24, 8, 17), (24, 16, 0), (13, 11, 6)):
            chip = Chip(*shape)
            self.assertEqual((chip.blocks, chip.pages, chip.bad), shape)
            self.assertEqual((chip.ops, chip.cuts, chip.bad_blocks()), (0, 0, []))
            self.assertEqual(contents(chip), [[tuple(CLEAN)] * shape[1]] * shape[0])
            self.assertEqual([chip.erases(block) for block in range(shape[0])], [0] * shape[0])
            self.assertEqual([chip.is_bad(block) for block in range(shape[0])], [False] * shape[0])

    def test_31_wrong_shapes(self):
        for wrong in NO_INTS + [-8, 0, 7, 25, 2 ** 70]:
            self.assert_invalid(InvalidShape, wrong, Chip, wrong, None, None)
        for wrong in NO_INTS + [-8, 0, 7, 17, 24]:
            self.assert_invalid(InvalidShape, wrong, Chip, 17, wrong, None)
        for wrong in NO_INTS + [-1, 11, 17, 2 ** 70]:
            self.assert_invalid(InvalidShape, wrong, Chip, 17, 8, wrong)
        self.assert_invalid(InvalidShape, 2, Chip, 8, 8, 2)
        self.assert_invalid(InvalidShape, 18, Chip, 24, 16, 18)

    def test_31_a_chip_is_equal_to_itself_alone(self):
        first, second = Chip(8, 8, 0), Chip(8, 8, 0)
        self.assertTrue(first == first)
        self.assertFalse(first == second)
        self.assertTrue(first != second)
        self.assertFalse(first in (None, 0, image(first)))

    def test_9_arguments_by_name_and_tuples_as_lists(self):
        chip = Chip(pages=9, bad=1, blocks=8)
        self.assertEqual((chip.blocks, chip.pages, chip.bad), (8, 9, 1))
        self.assertIs(chip.write(octets=tuple(DARK), page=8, block=7), True)
        self.assert_octets(chip.read(page=8, block=7), DARK)
        self.assertIs(chip.erase(block=7), True)
        self.assertEqual((chip.erases(block=7), chip.is_bad(block=7)), (1, False))
        self.assertEqual((chip.cut(mask=0, op=2), chip.fail(mask=0, op=2), chip.clear_plans()), (None, None, None))

    def test_9_no_list_is_kept_and_lists_are_new(self):
        chip = Chip(8, 8, 1)
        octets = list(DARK)
        chip.write(0, 0, octets)
        self.assertEqual(octets, DARK)
        octets[0] = 255
        self.assert_octets(chip.read(0, 0), DARK)
        chip.fail(1, 0)
        chip.erase(0)
        chip.bad_blocks().append(3)
        self.assertEqual(chip.bad_blocks(), [0])

    def test_32_reading_is_no_op(self):
        chip = Chip(8, 8, 1)
        chip.fail(1, HIGHEST_MASK)
        chip.write(7, 7, [9] * 31)
        before = image(chip)
        self.assert_octets(chip.read(7, 7), [9] * 31)
        self.assert_octets(chip.read(7, 6), CLEAN)
        self.assertEqual(image(chip), before)
        self.assertIs(chip.write(7, 6, [8] * 31), False)
        self.assertEqual(chip.bad_blocks(), [7])
        self.assert_octets(chip.read(7, 6), [8] * 31)

    def test_33_a_write_turns_bits_to_0_alone(self):
        chip = Chip(8, 8, 0)
        source, lies = dice(33), CLEAN
        for _ in range(5):
            octets = some_octets(source, 31)
            self.assertIs(chip.write(3, 4, octets), True)
            lies = [was & octet for was, octet in zip(lies, octets)]
            self.assert_octets(chip.read(3, 4), lies)
        self.assertEqual((chip.ops, chip.cuts), (5, 0))
        self.assertEqual([page for block in contents(chip) for page in block].count(tuple(CLEAN)), 63)

    def test_34_an_erase_turns_the_whole_block_to_1(self):
        chip = Chip(8, 16, 0)
        for page in range(16):
            chip.write(1, page, DARK)
            chip.write(2, page, DARK)
        self.assertIs(chip.erase(1), True)
        self.assertEqual(contents(chip)[0:3], [[tuple(CLEAN)] * 16, [tuple(CLEAN)] * 16, [tuple(DARK)] * 16])
        self.assertEqual([chip.erases(block) for block in range(4)], [0, 1, 0, 0])
        self.assertEqual(chip.ops, 33)

    def test_34_erases_are_counted_while_the_block_is_good(self):
        chip = Chip(8, 8, 1)
        chip.cut(1, 0)
        chip.fail(2, 0)
        chip.cut(4, 0)
        self.assertIs(chip.erase(5), True)
        self.assert_cut(1, chip.erase, 5)
        self.assertIs(chip.erase(5), False)
        self.assertEqual(chip.erases(5), 3)
        self.assertIs(chip.erase(5), False)
        self.assert_cut(4, chip.erase, 5)
        self.assertEqual((chip.erases(5), chip.ops, chip.cuts), (3, 5, 2))

    def test_34_writes_are_no_erases(self):
        chip = Chip(8, 8, 1)
        chip.fail(0, 0)
        chip.write(5, 0, DARK)
        self.assertEqual(chip.erases(5), 0)

    def test_35_a_cut_write_is_done_by_its_mask(self):
        chip = Chip(8, 8, 1)
        chip.write(0, 1, [254] + [255] * 30)
        chip.cut(1, 0b101)
        self.assert_cut(1, chip.write, 0, 1, [15] + [255] * 29 + [0])
        self.assert_octets(chip.read(0, 1), [0b01011110] + [255] * 30)
        self.assertEqual((chip.ops, chip.cuts, chip.bad_blocks()), (2, 1, []))

    def test_35_a_cut_erase_is_done_by_its_mask_page_by_page(self):
        chip = Chip(8, 8, 0)
        chip.write(6, 0, [255] * 30 + [254])
        chip.write(6, 7, [127] * 31)
        chip.cut(2, 0b101)
        self.assert_cut(2, chip.erase, 6)
        self.assert_octets(chip.read(6, 0), CLEAN)
        self.assert_octets(chip.read(6, 7), [127, 255] + [127] * 29)
        self.assertEqual((chip.ops, chip.cuts, chip.erases(6)), (3, 1, 1))

    def test_35_a_failed_write_and_a_failed_erase(self):
        chip = Chip(9, 8, 2)
        chip.fail(0, 0b11)
        chip.fail(2, 0b100)
        self.assertIs(chip.write(4, 2, DARK), False)
        self.assert_octets(chip.read(4, 2), [63] + [255] * 30)
        chip.write(1, 0, [0] + [255] * 30)
        self.assertIs(chip.erase(1), False)
        self.assert_octets(chip.read(1, 0), [32] + [255] * 30)
        self.assertEqual((chip.bad_blocks(), chip.cuts, chip.ops), ([1, 4], 0, 3))

    def test_35_nothing_turns_in_a_bad_block(self):
        chip = Chip(8, 8, 1)
        chip.fail(0, 5)
        chip.write(3, 0, DARK)
        before = contents(chip)
        self.assertIs(chip.write(3, 0, DARK), False)
        self.assertIs(chip.write(3, 1, DARK), False)
        self.assertIs(chip.erase(3), False)
        chip.cut(4, HIGHEST_MASK)
        chip.cut(5, HIGHEST_MASK)
        self.assert_cut(4, chip.write, 3, 1, DARK)
        self.assert_cut(5, chip.erase, 3)
        self.assertEqual(contents(chip), before)
        self.assertEqual((chip.ops, chip.cuts, chip.erases(3), chip.bad_blocks()), (6, 2, 0, [3]))

    def test_35_more_failures_than_may_be(self):
        for bad in (0, 1, 2):
            chip = Chip(9, 8, bad)
            for op in range(4):
                chip.fail(op, 0)
            answers = [chip.write(block, 0, DARK) for block in range(4)]
            self.assertEqual(answers, [False] * bad + [True] * (4 - bad))
            self.assertEqual(chip.bad_blocks(), list(range(bad)))
            self.assertEqual([chip.read(block, 0)[0] for block in range(4)], [255] * bad + [0] * (4 - bad))

    def test_35_a_failure_planned_for_an_op_in_a_bad_block_is_used_up(self):
        chip = Chip(9, 8, 2)
        chip.fail(0, 0)
        chip.fail(1, HIGHEST_MASK)
        self.assertEqual([chip.write(0, 0, DARK), chip.write(0, 0, DARK), chip.write(1, 0, DARK)], [False, False, True])
        self.assert_octets(chip.read(0, 0), CLEAN)
        self.assertEqual(chip.bad_blocks(), [0])

    def test_35_the_masks_at_the_edges(self):
        for mask, octet in ((0, 255), (HIGHEST_MASK, 0)):
            chip = Chip(8, 16, 1)
            chip.cut(0, mask)
            chip.fail(1, mask)
            self.assert_cut(0, chip.write, 0, 0, DARK)
            self.assertIs(chip.write(1, 0, DARK), False)
            self.assert_octets(chip.read(0, 0), [octet] * 31)
            self.assert_octets(chip.read(1, 0), [octet] * 31)

    def test_35_the_highest_mask_erases_the_greatest_block(self):
        chip = Chip(24, 16, 17)
        for page in range(16):
            chip.write(23, page, DARK)
        chip.cut(16, HIGHEST_MASK - 2 ** 3967)
        self.assert_cut(16, chip.erase, 23)
        self.assert_octets(chip.read(23, 15), [255] * 30 + [254])
        chip.cut(17, HIGHEST_MASK)
        self.assert_cut(17, chip.erase, 23)
        self.assertEqual(contents(chip)[23], [tuple(CLEAN)] * 16)

    def test_36_a_cut_comes_ahead_of_a_failure(self):
        chip = Chip(8, 8, 1)
        chip.fail(0, 0)
        chip.cut(0, 1)
        self.assert_cut(0, chip.write, 0, 0, DARK)
        self.assertEqual((chip.read(0, 0)[0], chip.bad_blocks()), (127, []))
        self.assertIs(chip.write(0, 0, DARK), True)

    def test_36_a_later_plan_of_the_same_kind_takes_the_place(self):
        chip = Chip(8, 8, 1)
        chip.cut(0, 1)
        chip.fail(1, 1)
        chip.cut(0, 2)
        chip.fail(1, 2)
        self.assert_cut(0, chip.write, 0, 0, DARK)
        chip.write(1, 0, DARK)
        self.assertEqual((chip.read(0, 0)[0], chip.read(1, 0)[0]), (191, 191))

    def test_36_a_plan_is_for_one_op_and_is_kept_until_then(self):
        chip = Chip(8, 8, 1)
        chip.cut(2, 0)
        self.assertEqual([chip.write(0, 0, DARK), chip.erase(0)], [True, True])
        self.assert_cut(2, chip.write, 0, 0, DARK)
        chip.cut(5, 0)
        self.assertEqual([chip.write(0, 0, DARK), chip.erase(0)], [True, True])
        self.assert_cut(5, chip.erase, 0)

    def test_36_clear_plans(self):
        chip = Chip(8, 8, 1)
        for op in range(3):
            chip.cut(op, 0)
            chip.fail(op, 0)
        self.assertIsNone(chip.clear_plans())
        self.assertEqual([chip.write(0, page, DARK) for page in range(3)], [True] * 3)
        self.assertEqual((chip.cuts, chip.bad_blocks()), (0, []))

    def test_36_plans_for_later_ops_stay_behind_a_cut(self):
        chip = Chip(8, 8, 1)
        chip.cut(0, 0)
        chip.fail(1, 0)
        self.assert_cut(0, chip.erase, 0)
        self.assertIs(chip.erase(0), False)

    def test_37_bad_blocks(self):
        chip = Chip(24, 8, 17)
        for op, block in enumerate((23, 0, 11)):
            chip.fail(op, 0)
            self.assertIs(chip.is_bad(block), False)
            chip.erase(block)
            self.assertIs(chip.is_bad(block), True)
        self.assertEqual(chip.bad_blocks(), [0, 11, 23])
        chip.erase(11)
        chip.clear_plans()
        self.assertEqual(chip.bad_blocks(), [0, 11, 23])

    def test_38_what_lies_between(self):
        source = dice(38)
        chip = Chip(8, 8, 1)
        for _ in range(60):
            block, before = source.randrange(8), contents(chip)
            source.choice([chip.cut, chip.fail])(chip.ops, some_mask(source))
            never = source.choice([rises, falls])
            try:
                if never == rises:
                    chip.write(block, source.randrange(8), some_octets(source, 31))
                else:
                    chip.erase(block)
            except PowerCut:
                pass
            for old, new in zip(before[block], contents(chip)[block]):
                self.assertEqual(never(old, new), [])
        chip.clear_plans()
        for block in range(8):
            if chip.erase(block):
                self.assertEqual(contents(chip)[block], [tuple(CLEAN)] * 8)

    def test_33_to_36_as_told_page_by_page(self):
        for seed in range(12):
            source = dice(seed)
            shape = source.choice([(8, 8, 0), (8, 8, 1), (9, 9, 2), (10, 16, 3)])
            self.check_against_a_plain_chip(source, Chip(*shape), PlainChip(*shape))

    def check_against_a_plain_chip(self, source, chip, plain):
        for _ in range(80):
            self.plan_alike(source, chip, plain)
            block, page = source.randrange(5), source.randrange(chip.pages)
            octets = some_octets(source, 31)
            erasing = source.randrange(4) == 0
            expected = plain.erase(block) if erasing else plain.write(block, page, octets)
            try:
                answer = chip.erase(block) if erasing else chip.write(block, page, octets)
            except PowerCut as cut:
                answer = "cut"
                self.assertEqual(cut.op, plain.ops - 1)
            self.assertIs(answer, expected)
            self.assertEqual([list(map(tuple, rows)) for rows in plain.rows], contents(chip))
            self.assertEqual((chip.ops, chip.cuts, chip.bad_blocks()), (plain.ops, plain.cuts, plain.bad))
            self.assertEqual([chip.erases(block) for block in range(chip.blocks)], plain.erased)

    def plan_alike(self, source, chip, plain):
        if source.randrange(3) == 0:
            op, mask = chip.ops + source.randrange(5), some_mask(source)
            chip.cut(op, mask)
            plain.cut_plans[op] = mask
        if source.randrange(6) == 0:
            op, mask = chip.ops + source.randrange(5), some_mask(source)
            chip.fail(op, mask)
            plain.fail_plans[op] = mask
        if source.randrange(20) == 0:
            chip.clear_plans()
            plain.cut_plans, plain.fail_plans = {}, {}

    def test_4_wrong_blocks_come_first(self):
        chip = Chip(9, 8, 1)
        for wrong in NO_INTS + [-1, 9, 2 ** 70]:
            for call in (chip.erase, chip.erases, chip.is_bad):
                self.assert_refused(chip, InvalidBlock, wrong, call, wrong)
            self.assert_refused(chip, InvalidBlock, wrong, chip.read, wrong, None)
            self.assert_refused(chip, InvalidBlock, wrong, chip.write, wrong, None, None)
        self.assert_octets(chip.read(8, 7), CLEAN)

    def test_4_wrong_pages_come_next(self):
        chip = Chip(8, 9, 1)
        for wrong in NO_INTS + [-1, 9, 2 ** 70]:
            self.assert_refused(chip, InvalidPage, wrong, chip.read, 0, wrong)
            self.assert_refused(chip, InvalidPage, wrong, chip.write, 0, wrong, None)
        self.assert_octets(chip.read(7, 8), CLEAN)

    def test_33_wrong_octets(self):
        chip = Chip(8, 8, 1)
        tail = [255] * 30
        for wrong in NO_OCTETS + [[], (), tail, tail * 2, tail + [256], tail + [-1], [True] + tail, [None] + tail]:
            self.assert_refused(chip, InvalidOctets, wrong, chip.write, 0, 0, wrong)

    def test_36_wrong_plans(self):
        chip = Chip(8, 8, 1)
        chip.erase(0)
        chip.erase(0)
        for call in (chip.cut, chip.fail):
            for wrong in NO_INTS + [-1, 0, 1, -2 ** 70]:
                self.assert_refused(chip, InvalidOp, wrong, call, wrong, None)
            for wrong in NO_INTS + [-1, 2 ** 4096]:
                self.assert_refused(chip, InvalidMask, wrong, call, 2, wrong)
        self.assertIs(chip.erase(0), True)
        for call in (chip.cut, chip.fail):
            self.assertIsNone(call(3, HIGHEST_MASK))
            self.assertIsNone(call(2 ** 70, 0))

    def test_10_a_refused_call_is_no_op_and_meets_no_plan(self):
        chip = Chip(8, 8, 1)
        chip.cut(0, 1)
        self.assert_refused(chip, InvalidOctets, None, chip.write, 0, 0, None)
        self.assert_refused(chip, InvalidBlock, 8, chip.erase, 8)
        self.assert_refused(chip, InvalidMask, -1, chip.cut, 0, -1)
        self.assert_cut(0, chip.write, 0, 0, DARK)
        self.assertEqual(chip.read(0, 0)[0], 127)

    def test_8_a_cut_comes_out_of_the_call_and_the_chip_is_used_on(self):
        chip = Chip(8, 8, 0)
        for op in (0, 1):
            chip.cut(op, 0)
            self.assert_cut(op, chip.erase, 3)
        self.assertEqual((chip.ops, chip.cuts, chip.erase(3)), (2, 2, True))
