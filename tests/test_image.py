"""Point 39: images of chips."""

from onewaybits import chip as module
from onewaybits.chip import Chip, image, read_image
from onewaybits.errors import InvalidChip, InvalidImage, PowerCut
from tests.helper import HIGHEST_MASK, NO_INTS, NO_OCTETS, PointTest, dice, some_mask, some_octets

SIZE = 5 + 31 * 8
NO_CHIPS = [None, True, 0, "chip", [], (8, 8, 1), {}, Chip, InvalidChip(1)]


def used_chip():
    """Return a chip with 4 ops, 1 cut, 2 erases and a bad block."""
    chip = Chip(9, 8, 2)
    chip.cut(1, 3)
    chip.fail(2, 5)
    chip.erase(8)
    try:
        chip.erase(0)
    except PowerCut:
        pass
    chip.write(4, 7, [0] * 31)
    chip.write(5, 1, list(range(31)))
    return chip


class ImageTest(PointTest):

    def changed_image(self, places):
        octets = list(image(used_chip()))
        for place, octet in places.items():
            octets[place] = octet
        return octets

    def assert_no_image(self, octets):
        self.assert_invalid(InvalidImage, octets, read_image, octets)

    def assert_read(self, octets):
        chip = read_image(octets)
        self.assertIs(type(chip), Chip)
        self.assert_octets(image(chip), octets)
        return chip

    def test_39_each_function_is_defined_in_its_file(self):
        self.assertEqual((module.image.__module__, module.read_image.__module__), ("onewaybits.chip",) * 2)

    def test_39_a_new_chip(self):
        for blocks, pages, bad in ((8, 8, 0), (8, 8, 1), (24, 16, 17)):
            told = [blocks, pages, bad] + [0] * 8 + ([0] * 5 + [255] * (31 * pages)) * blocks
            self.assert_octets(image(Chip(blocks, pages, bad)), told)
            self.assert_read(told)

    def test_39_a_used_chip(self):
        told = image(chip=used_chip())
        self.assert_octets(told[:11], [9, 8, 2, 0, 0, 0, 4, 0, 0, 0, 1])
        parts = [told[11 + SIZE * block:11 + SIZE * (block + 1)] for block in range(9)]
        self.assertEqual([parts[block][:5] for block in (0, 4, 8)], [(0, 0, 0, 1, 0), (0, 0, 0, 0, 1), (0, 0, 0, 1, 0)])
        self.assertEqual([parts[block][:5] for block in (1, 2, 3, 5, 6, 7)], [(0,) * 5] * 6)
        self.assertEqual(parts[4][5:], (255,) * (31 * 7) + (95,) + (255,) * 30)
        self.assertEqual(parts[5][5:], (255,) * 31 + tuple(range(31)) + (255,) * (31 * 6))
        self.assertEqual(parts[8][5:], (255,) * (31 * 8))
        self.assertEqual(len(told), 11 + 9 * SIZE)

    def test_39_greater_numbers(self):
        told = self.changed_image({3: 255, 4: 1, 5: 2, 6: 3, 7: 254, 8: 9, 9: 8, 10: 7, 11: 1, 12: 2, 13: 3, 14: 4})
        chip = self.assert_read(told)
        self.assertEqual((chip.ops, chip.cuts, chip.erases(0)), (0xFF010203, 0xFE090807, 0x01020304))

    def test_39_more_ops_than_four_octets_tell_are_no_error(self):
        chip = read_image(self.changed_image({3: 255, 4: 255, 5: 255, 6: 255}))
        chip.erase(0)
        self.assertEqual((chip.ops, image(chip)[3:7]), (2 ** 32, (255,) * 4))

    def test_39_the_read_chip_is_new_and_goes_on_alike(self):
        source = dice(39)
        for _ in range(10):
            chip = used_chip()
            copy = read_image(octets=list(image(chip)))
            self.assertFalse(copy == chip)
            for _ in range(30):
                op, mask = chip.ops + source.randrange(4), some_mask(source)
                block, octets = source.randrange(9), some_octets(source, 31)
                self.assertEqual(self.answer(chip, op, mask, block, octets), self.answer(copy, op, mask, block, octets))
                self.assertEqual(image(chip), image(copy))

    def answer(self, chip, op, mask, block, octets):
        (chip.cut if mask % 3 else chip.fail)(op, mask)
        try:
            return chip.erase(block) if op % 5 == 0 else chip.write(block, op % 8, octets)
        except PowerCut as cut:
            return cut.op

    def test_39_plans_are_not_told(self):
        chip = used_chip()
        before = image(chip)
        chip.cut(4, 0)
        chip.fail(4, 0)
        self.assertEqual(image(chip), before)
        self.assertIs(read_image(image(chip)).erase(0), True)

    def test_39_an_image_is_no_op_and_the_chips_share_nothing(self):
        chip = used_chip()
        octets = list(image(chip))
        copy = read_image(octets)
        octets[20] = 0
        chip.write(5, 1, [0] * 31)
        self.assertEqual((chip.ops, copy.ops), (5, 4))
        self.assert_octets(copy.read(5, 1), range(31))
        self.assert_octets(copy.read(0, 0), [255] * 31)

    def test_39_no_chip(self):
        for wrong in NO_CHIPS:
            self.assert_invalid(InvalidChip, wrong, image, wrong)

    def test_39_no_list_of_octets(self):
        for wrong in NO_OCTETS + NO_INTS + NO_CHIPS + [[8], [8, 8, 1], [8, 8, 1] + [0] * 8, used_chip()]:
            self.assert_no_image(wrong)
        for place in (0, 2, 3, 10, 14, 15, 16, 11 + 9 * SIZE - 1):
            for wrong in (-1, 256, True, False, None, "0", [0], 2 ** 70):
                self.assert_no_image(self.changed_image({place: wrong}))

    def test_39_the_number_of_octets(self):
        told = image(used_chip())
        for wrong in (told[:-1], told + (255,), list(told[1:]), told[:11], told[:10], told + told[-SIZE:], ()):
            self.assert_no_image(wrong)

    def test_39_the_shape(self):
        for blocks, pages, bad in ((7, 8, 0), (25, 8, 0), (8, 7, 0), (8, 17, 0), (8, 8, 2), (24, 16, 18), (0, 0, 0)):
            self.assert_no_image([blocks, pages, bad] + [0] * 8 + ([0] * 5 + [255] * (31 * pages)) * blocks)
        for place in (0, 1):
            for step in (-1, 1):
                self.assert_no_image(self.changed_image({place: image(used_chip())[place] + step}))

    def test_39_the_octets_for_bad_blocks(self):
        place = [15 + SIZE * block for block in range(9)]
        self.assert_no_image(self.changed_image({place[0]: 2}))
        self.assert_no_image(self.changed_image({place[4]: 255}))
        self.assert_no_image(self.changed_image({place[4]: 0, place[8]: 2}))
        self.assertEqual(self.assert_read(self.changed_image({place[8]: 1})).bad_blocks(), [4, 8])
        self.assert_no_image(self.changed_image({place[8]: 1, place[0]: 1}))
        self.assert_no_image(self.changed_image({2: 0}))
        self.assert_read(self.changed_image({2: 1}))

    def test_39_the_cuts_and_the_erases(self):
        self.assert_read(self.changed_image({10: 4}))
        self.assert_no_image(self.changed_image({10: 5}))
        self.assert_no_image(self.changed_image({7: 1}))
        self.assert_read(self.changed_image({14: 3}))
        self.assert_no_image(self.changed_image({14: 4}))
        self.assert_no_image(self.changed_image({11: 1}))
        self.assert_read(self.changed_image({14: 3, 10: 4}))

    def test_39_no_ops_and_a_bad_block(self):
        told = [8, 8, 1] + [0] * 8 + ([0] * 4 + [1] + [7] * (31 * 8)) + ([0] * 5 + [255] * (31 * 8)) * 7
        chip = self.assert_read(told)
        self.assertEqual((chip.ops, chip.bad_blocks()), (0, [0]))
        chip.fail(0, HIGHEST_MASK)
        self.assertEqual([chip.write(1, 0, [0] * 31), chip.write(0, 0, [0] * 31)], [True, False])
        self.assert_octets(chip.read(0, 0), [7] * 31)
