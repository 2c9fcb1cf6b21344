"""Points 41 to 47: pages of data and a check."""

from onewaybits import pages as module
from onewaybits.errors import InvalidData, InvalidOctets
from onewaybits.octets import changed, falls, rises
from onewaybits.pages import data_of, is_clean, is_rest, is_torn, is_whole, sealed, surplus
from tests.helper import HIGHEST_MASK, NO_OCTETS, PointTest, bits_of, dice, some_mask, some_octets
from tests.values import ANY_VALUES

SESSION = """
>>> from onewaybits.octets import changed
>>> from onewaybits.pages import data_of, is_clean, is_rest, is_torn, is_whole, sealed, surplus
>>> data = [255] * 28 + [254, 15]
>>> clean, page = [255] * 31, sealed(data)
>>> [page[28:], data_of(page) == tuple(data), is_whole(page), is_clean(clean), surplus(page), surplus(clean)]
[(254, 15, 5), True, True, True, 0, 255]
>>> left = changed(clean, page, 2016)
>>> [left[28:], data_of(left), is_torn(left), surplus(left)]
[(255, 255, 5), None, True, 5]
>>> [is_rest(data, left), is_rest(data, clean), is_rest(data, sealed([0] * 30))]
[True, True, False]
>>> [changed(left, page, 31) == page, is_whole(changed(left, page, 30))]
[True, False]
>>> data_of([1, 2])
raises InvalidOctets([1, 2])
"""
CLEAN = [255] * 31
DARK = [0] * 31
# Values that are no page, each of them near to one.
NO_PAGES = ANY_VALUES + NO_OCTETS + [
    [255] * 30, [255] * 32, [0] * 30, [255] * 30 + [True], [False] * 31, [255] * 30 + [256], [-1] + [255] * 30,
    [255] * 30 + [None], "a" * 31, [[255] * 31], {"a": CLEAN}, list(sealed([1] * 30)) + [0],
    list(sealed([1] * 30))[:-1],
]
NO_DATA = ANY_VALUES + NO_OCTETS + [
    [255] * 29, [255] * 31, [0] * 29 + [True], [False] * 30, [255] * 29 + [256], [-1] + [255] * 29, [0] * 29 + ["0"],
    "a" * 30, [[0] * 30],
]


def some_data():
    """Return data of many kinds, the edges among them."""
    source = dice(41)
    edges = [[255] * 30, [0] * 30, [254] + [255] * 29, [255] * 29 + [127], [0] * 29 + [1], [85, 170] * 15]
    return edges + [some_octets(source, 30) for _ in range(30)]


def some_pages():
    """Return pages of each kind."""
    source = dice(42)
    found = [CLEAN, DARK, [255] * 30 + [0], [0] * 30 + [255], [0] * 30 + [240], [255] * 30 + [254], [254] + [255] * 30]
    for data in some_data():
        page = sealed(data)
        found.append(page)
        found.append(list(page[:30]) + [source.randrange(256)])
        found.append(changed(CLEAN, page, some_mask(source)))
    return found


class PagesTest(PointTest):

    def test_examples(self):
        self.assert_session(SESSION)

    def test_each_function_is_defined_in_its_file(self):
        for name in ("sealed", "is_clean", "is_whole", "is_torn", "data_of", "surplus", "is_rest"):
            self.assertEqual(getattr(module, name).__module__, "onewaybits.pages")

    def test_9_arguments_by_name(self):
        page = sealed(data=[255] * 30)
        self.assert_octets(data_of(octets=page), [255] * 30)
        self.assertEqual((surplus(octets=page), is_rest(value=page, data=[255] * 30)), (0, True))
        self.assertEqual((is_clean(value=page), is_whole(value=page), is_torn(value=page)), (False, True, False))

    def test_9_arguments_stay(self):
        data, page = [1] * 30, list(sealed([1] * 30))
        sealed(data), data_of(page), surplus(page), is_rest(data, page), is_torn(page)
        self.assertEqual((data, page), ([1] * 30, [1] * 30 + [210]))

    def test_41_sealed(self):
        for data in some_data():
            self.assert_octets(sealed(data), data + [bits_of(data).count(0)])
            self.assert_octets(sealed(tuple(data)), sealed(data))
        self.assertEqual(sealed([0] * 30)[30], 240)
        self.assertEqual(sealed([255] * 30)[30], 0)

    def test_41_no_data(self):
        for wrong in NO_DATA:
            self.assert_invalid(InvalidData, wrong, sealed, wrong)

    def test_42_each_page_is_of_just_one_kind(self):
        for page in some_pages():
            clean = list(page) == CLEAN
            whole = page[30] == bits_of(page[:30]).count(0)
            for value in (list(page), tuple(page)):
                self.assertIs(is_clean(value), clean)
                self.assertIs(is_whole(value), whole)
                self.assertIs(is_torn(value), not clean and not whole)

    def test_42_a_page_beside_a_whole_one_is_torn(self):
        for data in some_data():
            page = sealed(data)
            for bit in range(248):
                beside = list(page)
                beside[bit // 8] ^= 128 >> bit % 8
                self.assertFalse(is_whole(beside))
                self.assertEqual(is_torn(beside), beside != CLEAN)

    def test_42_what_is_no_page_is_of_no_kind(self):
        for value in NO_PAGES:
            self.assertEqual([is_clean(value), is_whole(value), is_torn(value)], [False] * 3, value)

    def test_43_data_of(self):
        for data in some_data():
            self.assert_octets(data_of(sealed(data)), data)
            self.assert_octets(data_of(list(sealed(data))), data)
        for page in some_pages():
            told = data_of(page)
            if is_whole(page):
                self.assert_octets(sealed(told), page)
            else:
                self.assertIs(told, None)

    def test_43_and_44_no_pages(self):
        for wrong in NO_PAGES:
            self.assert_invalid(InvalidOctets, wrong, data_of, wrong)
            self.assert_invalid(InvalidOctets, wrong, surplus, wrong)

    def test_44_surplus(self):
        self.assertEqual([surplus(CLEAN), surplus(DARK), surplus([0] * 30 + [255]), surplus(sealed([0] * 30))],
                         [255, -240, 15, 0])
        for page in some_pages():
            self.assertEqual(surplus(page), page[30] - bits_of(page[:30]).count(0))
            self.assertEqual((surplus(page) == 0, surplus(page) == 255), (is_whole(page), is_clean(page)))

    def test_44_each_bit_that_falls_lowers_it(self):
        for page in some_pages()[:20]:
            for bit in range(248):
                beside = list(page)
                beside[bit // 8] ^= 128 >> bit % 8
                counts = 1 if bit < 240 else 128 >> bit % 8
                falls_there = page[bit // 8] > beside[bit // 8]
                self.assertEqual(surplus(page) - surplus(beside), counts if falls_there else -counts)

    def test_44_of_two_whole_pages_each_has_a_1_where_the_other_one_has_a_0(self):
        whole = [sealed(data) for data in some_data()]
        for first in whole:
            for second in whole:
                self.assertEqual(falls(first, second) == [], first == second)

    def test_45_rests(self):
        source = dice(45)
        for data in some_data():
            page = sealed(data)
            for value in (page, list(page), CLEAN, tuple(CLEAN), changed(CLEAN, page, some_mask(source))):
                self.assertIs(is_rest(data, value), True)
            for other in some_pages():
                due = all(b >= a for a, b in zip(bits_of(page), bits_of(other)))
                self.assertIs(is_rest(tuple(data), other), due)
                if due:
                    self.assertTrue(0 <= surplus(other) <= 255)
                    self.assertEqual(surplus(other) == 0, tuple(other) == page)
                    self.assertEqual(data_of(other), tuple(data) if tuple(other) == page else None)

    def test_45_a_page_with_one_fallen_bit_is_no_rest(self):
        data = [255] * 29 + [240]
        for bit in range(248):
            value = list(sealed(data))
            if value[bit // 8] & (128 >> bit % 8):
                value[bit // 8] ^= 128 >> bit % 8
                self.assertIs(is_rest(data, value), False)

    def test_45_any_value(self):
        for value in NO_PAGES:
            self.assertIs(is_rest([255] * 30, value), False)
        for wrong in NO_DATA:
            for value in (CLEAN, None, wrong):
                self.assert_invalid(InvalidData, wrong, is_rest, wrong, value)

    def test_46_what_cuts_leave(self):
        source = dice(46)
        for data in some_data():
            page, left = sealed(data), CLEAN
            for _ in range(12):
                before, erased = left, source.random() < 0.5
                left = changed(left, CLEAN if erased else page, some_mask(source))
                self.assertTrue(is_rest(data, left))
                self.assertEqual(data_of(left), tuple(data) if left == page else None)
                if erased:
                    self.assertGreaterEqual(surplus(left), surplus(before))
                    self.assertEqual(is_whole(left), is_whole(before) and rises(before, left) == [])

    def test_46_each_part_of_a_write_and_of_an_erase(self):
        data = [255] * 28 + [251, 190]
        page = sealed(data)
        count = len(falls(CLEAN, page))
        self.assertEqual(count, 3 + 6)
        for mask in range(2 ** count):
            written, erased = changed(CLEAN, page, mask), changed(page, CLEAN, mask)
            self.assertEqual((is_rest(data, written), is_rest(data, erased)), (True, True))
            self.assertEqual(data_of(written), tuple(data) if mask == 2 ** count - 1 else None)
            self.assertEqual(data_of(erased), tuple(data) if mask == 0 else None)
            self.assertEqual(is_clean(written), mask == 0)
            self.assertEqual(is_clean(erased), mask == 2 ** count - 1)

    def test_47_the_page_that_nobody_wrote(self):
        first = [127] + [255] * 29
        left = [127] + [255] * 29 + [3]
        self.assertTrue(is_rest(first, left))
        self.assertTrue(is_torn(left))
        second = sealed([255, 63] + [255] * 28)
        both = [was & octet for was, octet in zip(left, second)]
        nobody = [127, 127] + [255] * 28 + [2]
        masks = [mask for mask in range(2 ** len(falls(left, both))) if changed(left, both, mask) == tuple(nobody)]
        self.assertEqual(len(masks), 1)
        self.assertTrue(is_whole(nobody))
        self.assert_octets(data_of(nobody), nobody[:30])
        self.assertFalse(is_rest(first, nobody) or is_rest([255, 63] + [255] * 28, nobody))

    def test_46_the_highest_mask_does_all(self):
        for data in some_data():
            self.assert_octets(changed(CLEAN, sealed(data), HIGHEST_MASK), sealed(data))
            self.assert_octets(changed(sealed(data), CLEAN, HIGHEST_MASK), CLEAN)
