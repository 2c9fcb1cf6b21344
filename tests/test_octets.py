"""Points 3, 9 and 22 to 27: lists of octets."""

from onewaybits import octets as module
from onewaybits.errors import InvalidCount, InvalidMask, InvalidNumber, InvalidOctets
from onewaybits.octets import changed, falls, in_octets, number_in, rises, zeros
from tests.helper import (
    HIGHEST_MASK, NO_INTS, NO_OCTETS, PointTest, bits_of, dice, some_mask, some_octets, turned,
)

SESSION = """
>>> from onewaybits.octets import changed, falls, in_octets, number_in, rises, zeros
>>> [zeros([255, 250]), falls([255, 250], [204, 251]), rises([255, 250], [204, 251])]
[2, [2, 3, 6, 7], [15]]
>>> [changed([255, 250], [204, 251], 5), number_in([1, 4]), in_octets(260, 4)]
[(221, 250), 260, (0, 0, 1, 4)]
>>> in_octets(260, 1)
raises InvalidNumber(260)
"""
SOME_PAIRS = [([], []), ([0], [255]), ([255], [0]), ([170], [85]), ([7, 7], [7, 7])]
BESIDE_MASKS = NO_INTS + [-1, 2 ** 4096, -2 ** 4096]


def pairs():
    source = dice(24)
    for count in range(40):
        yield some_octets(source, count), some_octets(source, count)


class OctetsTest(PointTest):

    def test_examples(self):
        self.assert_session(SESSION)

    def test_each_function_is_defined_in_its_file(self):
        for name in ("zeros", "falls", "rises", "changed", "number_in", "in_octets"):
            self.assertEqual(getattr(module, name).__module__, "onewaybits.octets")

    def test_9_arguments_by_name_and_tuples_as_lists(self):
        self.assertEqual(zeros(octets=(255, 0)), 8)
        self.assertEqual(falls(old=(255, 3), new=[254, 3]), [7])
        self.assertEqual(rises(new=(255,), old=[254]), [7])
        self.assert_octets(changed(mask=1, new=(0, 0), old=[128, 128]), (0, 128))
        self.assertEqual(number_in(octets=(1, 0)), 256)
        self.assert_octets(in_octets(count=2, number=1), (0, 1))

    def test_9_arguments_stay_and_results_are_new(self):
        old, new = [255, 0], [0, 255]
        first, second = falls(old, new), falls(old, new)
        self.assertEqual(first, second)
        self.assertIsNot(first, second)
        first.append(99)
        self.assertEqual(falls(old, new), second)
        changed(old, new, HIGHEST_MASK)
        self.assertEqual((old, new), ([255, 0], [0, 255]))

    def test_22_a_list_of_one_argument(self):
        for wrong in NO_OCTETS:
            for call in (zeros, number_in):
                self.assert_invalid(InvalidOctets, wrong, call, wrong)

    def test_22_a_list_of_two_arguments(self):
        for wrong in NO_OCTETS:
            for call in (falls, rises):
                self.assert_invalid(InvalidOctets, wrong, call, wrong, [0])
                self.assert_invalid(InvalidOctets, wrong, call, wrong, "ab")
                self.assert_invalid(InvalidOctets, wrong, call, [0], wrong)
            self.assert_invalid(InvalidOctets, wrong, changed, wrong, None, -1)
            self.assert_invalid(InvalidOctets, wrong, changed, [0], wrong, -1)

    def test_22_unlike_numbers_of_octets(self):
        for old, new in (([], [1]), ([1], []), ([1, 2, 3], [1, 2]), ((0,), [0, 0])):
            self.assert_invalid(InvalidOctets, new, falls, old, new)
            self.assert_invalid(InvalidOctets, new, rises, old, new)
            self.assert_invalid(InvalidOctets, new, changed, old, new, -1)

    def test_22_bits_are_told_by_their_index(self):
        for k in range(3):
            for j in range(8):
                octets = [0, 0, 0]
                octets[k] = 128 >> j
                self.assertEqual(rises([0, 0, 0], octets), [8 * k + j])
                self.assertEqual(falls(octets, [0, 0, 0]), [8 * k + j])

    def test_23_zeros(self):
        self.assertEqual(zeros([]), 0)
        self.assertEqual(zeros(()), 0)
        self.assertEqual(zeros([0] * 500), 4000)
        self.assertEqual(zeros([255] * 500), 0)
        for octet in range(256):
            self.assertEqual(zeros([octet]), bits_of([octet]).count(0))
            self.assertEqual(zeros([octet, 1, octet]), 2 * bits_of([octet]).count(0) + 7)

    def test_24_falls_and_rises(self):
        for old, new in list(pairs()) + SOME_PAIRS:
            bits = list(zip(bits_of(old), bits_of(new)))
            self.assertEqual(falls(old, new), [k for k, pair in enumerate(bits) if pair == (1, 0)])
            self.assertEqual(rises(old, new), [k for k, pair in enumerate(bits) if pair == (0, 1)])

    def test_24_what_follows(self):
        for old, new in pairs():
            self.assertEqual(rises(old, new), falls(new, old))
            self.assertEqual(falls(old, new) == rises(old, new) == [], old == new)
            self.assertEqual(zeros(new), zeros(old) + len(falls(old, new)) - len(rises(old, new)))

    def test_25_each_mask_of_one_octet(self):
        for old, new in (([170], [60]), ([0], [255]), ([255], [0]), ([9], [9])):
            for mask in range(2 ** 8):
                self.assert_octets(changed(old, new, mask), turned(old, new, mask))

    def test_25_falls_and_rises_are_counted_together(self):
        self.assert_octets(changed([15, 255], [240, 255], 0b00010001), [135, 255])
        self.assert_octets(changed([15, 1], [240, 0], 2 ** 8), [15, 0])

    def test_25_some_masks(self):
        source = dice(25)
        for old, new in pairs():
            for mask in (0, 1, HIGHEST_MASK, HIGHEST_MASK - 1, 2 ** 4095, some_mask(source)):
                self.assert_octets(changed(old, new, mask), turned(old, new, mask))

    def test_25_the_edges(self):
        for old, new in list(pairs()) + SOME_PAIRS + [([255] * 512, [0] * 512)]:
            self.assert_octets(changed(old, new, 0), old)
            self.assert_octets(changed(old, new, HIGHEST_MASK), new)

    def test_25_from_the_4096th_unlike_bit_on_nothing_turns(self):
        self.assert_octets(changed([255] * 514, [0] * 514, HIGHEST_MASK), [0] * 512 + [255] * 2)
        old, new = [3] * 3 + [255] * 600, [3] * 3 + [0] * 600
        self.assert_octets(changed(old, new, HIGHEST_MASK), [3] * 3 + [0] * 512 + [255] * 88)
        self.assert_octets(changed([255] * 513, [0] * 513, 2 ** 4095), [255] * 511 + [254, 255])
        # 4096 is 585 times 7 and 1, so of the octet behind the 585 ones just the first bit turns.
        self.assert_octets(changed([254] * 600, [0] * 600, HIGHEST_MASK), [0] * 585 + [126] + [254] * 14)

    def test_25_wrong_masks(self):
        for wrong in BESIDE_MASKS:
            self.assert_invalid(InvalidMask, wrong, changed, [1], [2], wrong)
            self.assert_invalid(InvalidMask, wrong, changed, [], [], wrong)

    def test_26_what_lies_between(self):
        source = dice(26)
        for old, other in pairs():
            fallen = [a & b for a, b in zip(old, other)]
            risen = [a | b for a, b in zip(old, other)]
            for new, never in ((fallen, rises), (risen, falls)):
                left = old
                for _ in range(4):
                    before, left = left, changed(left, new, some_mask(source))
                    self.assertEqual([never(before, left), never(old, left), never(left, new)], [[], [], []])
                    low, high = sorted([zeros(old), zeros(new)])
                    self.assertTrue(low <= zeros(left) <= high)
                    self.assertEqual(zeros(left) == zeros(new), left == tuple(new))

    def test_27_number_in(self):
        self.assertEqual(number_in([]), 0)
        self.assertEqual(number_in([0, 0]), 0)
        self.assertEqual(number_in((1, 2, 3)), 1 * 65536 + 2 * 256 + 3)
        self.assertEqual(number_in([255] * 20), 256 ** 20 - 1)

    def test_27_in_octets(self):
        self.assert_octets(in_octets(0, 0), ())
        self.assert_octets(in_octets(0, 8), [0] * 8)
        for count in range(1, 9):
            for number in (0, 1, 255, 256 ** count - 1, 256 ** count // 3):
                told = in_octets(number, count)
                self.assert_octets(told, number.to_bytes(count, "big"))
                self.assertEqual(number_in(told), number)

    def test_27_wrong_counts_come_first(self):
        for wrong in NO_INTS + [-1, 9, 2 ** 64]:
            self.assert_invalid(InvalidCount, wrong, in_octets, 0, wrong)
            self.assert_invalid(InvalidCount, wrong, in_octets, -1, wrong)

    def test_27_wrong_numbers(self):
        for count in range(9):
            for wrong in NO_INTS + [-1, -256, 256 ** count, 2 ** 70]:
                self.assert_invalid(InvalidNumber, wrong, in_octets, wrong, count)

    def test_3_true_and_false_are_no_integers(self):
        self.assertEqual(number_in([1, 0]), 256)
        for wrong in (True, False):
            self.assert_invalid(InvalidCount, wrong, in_octets, 0, wrong)
            self.assert_invalid(InvalidNumber, wrong, in_octets, wrong, 1)
            self.assert_invalid(InvalidMask, wrong, changed, [], [], wrong)
