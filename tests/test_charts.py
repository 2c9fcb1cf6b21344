"""Point 178: charts."""

from onewaybits import charts as module
from onewaybits.blocks import counting, read_block
from onewaybits.charts import chart
from onewaybits.chip import Chip, image
from onewaybits.errors import InvalidChip
from onewaybits.index import Index
from onewaybits.pages import is_clean, is_torn, is_whole, sealed
from onewaybits.records import Head, Keep, Name, Node, Seal, moved
from onewaybits.store import Store
from tests.chips import chip_with, needed_places, put, record_on, some_sound_chip, torn
from tests.helper import PointTest, dice
from tests.test_writer import turn_bad
from tests.values import ANY_VALUES
from tests.workshop import SHAPES, each_cut, ready_chip, worked_chip

SESSION = """
>>> from onewaybits.charts import chart
>>> from onewaybits.chip import Chip
>>> from onewaybits.store import Store, make_chip_ready
>>> chip = Chip(8, 8, 1)
>>> make_chip_ready(chip)
>>> store = Store(chip)
>>> [store.do(("file", ("a",))), store.do(("link", ("a",), ("b",))), store.do(("drop", ("a",))), store.sync()]
[None, None, None, None]
>>> chart(chip)[:2]
['0 * hndnd...', '1 - ........']
"""
NO_CHIPS = [value for value in ANY_VALUES if not isinstance(value, Chip)]
NODE, NAME = Node(7, 0, 2, 2, 1, 0, 0), Name(7, 1, 2, 1, "a", 2)


def plain_chart(chip):
    """Return what point 178 tells, worked out page by page."""
    counted = counting(chip)
    needed = [place[:2] for place in needed_places(chip)]
    rows = []
    for block in range(chip.blocks):
        sign = "*" if block in counted else "x" if chip.is_bad(block) else "-"
        has_head = read_block(chip, block).head is not None
        letters = ""
        for page in range(chip.pages):
            octets, record = chip.read(block, page), record_on(chip, block, page)
            if is_clean(octets):
                letters += "."
            elif is_torn(octets):
                letters += "t"
            elif has_head and isinstance(record, Head):
                letters += "c" if record.is_cleaning else "h"
            elif has_head and isinstance(record, Seal):
                letters += "s"
            else:
                letters += "n" if (block, page) in needed else "d"
        rows.append(f"{block} {sign} {letters}")
    return rows


class ChartTest(PointTest):

    def test_examples(self):
        self.assert_session(SESSION)

    def test_each_name_is_defined_in_its_file(self):
        self.assertEqual(chart.__module__, module.__name__)

    def test_178_values_that_are_no_chip(self):
        for wrong in NO_CHIPS:
            self.assert_invalid(InvalidChip, wrong, chart, wrong)

    def test_178_new_chips(self):
        self.assertEqual(chart(chip=Chip(8, 8, 0)), [f"{block} - ........" for block in range(8)])
        chip = Chip(24, 16, 3)
        self.assertEqual(chart(chip), [f"{block} - ................" for block in range(24)])
        self.assertEqual(chart(ready_chip())[:2], ["0 * h.......", "1 - ........"])
        self.assertEqual((type(chart(chip)), type(chart(chip)[0])), (list, str))

    def test_178_each_letter(self):
        keep = Keep(8, 0, 1, "k", True)
        chip = chip_with({
            0: [Head(1, 1, False), NODE, NAME, Name(9, 0, 2, 1, "b", 2), None, Head(5, 1, True), Seal(1, 3)],
            1: [None, Head(1, 1, False), Seal(1, 0), NODE, moved(NODE, 0)],
            2: [Head(3, 1, True), moved(NODE, 0), Seal(1, 1), keep, Name(9, 0, 1, 1, "a", 0), Head(9, 1, False)],
            3: [Head(9, 1, True), moved(NODE, 0), Head(1, 1, True), NODE, keep],
            4: [NODE, NAME],
        })
        chip.write(0, 4, torn(sealed([1] * 30)))
        chip.write(0, 7, sealed([0] * 30))
        chip.write(1, 7, torn([255] * 31))
        chip.write(5, 0, torn([255] * 31))
        self.assertEqual(chart(chip), [
            "0 * hdndtcsd", "1 - .dddd..t", "2 * cnsndh..", "3 - cdcdd...", "4 - dd......", "5 - t.......",
            "6 - ........", "7 - ........"])

    def test_178_signs(self):
        chip = chip_with({0: [Head(1, 1, False)], 1: [Head(2, 2, False), NODE, NAME], 2: [Head(3, 1, True)]},
                         count=10, bad=3)
        for block in (1, 2, 5):
            turn_bad(chip, block)
        self.assertEqual(chart(chip)[:6], [
            "0 - h.......", "1 * hnn.....", "2 x c.......", "3 - ........", "4 - ........", "5 x ........"])

    def test_178_needed_by_the_records_alone(self):
        chip = chip_with({0: [Head(1, 1, False), Name(9, 0, 1, 1, "b", 5), Node(9, 0, 1, 7, 2, 0, 0),
                              Node(10, 0, 1, 7, 0, 0, 0)],
                          1: [Head(2, 1, False)] + [Keep(20 + k, 0, 1, "abcd"[k], True) for k in range(4)]})
        self.assertEqual(chart(chip)[:2], ["0 * hndd....", "1 * hnnnn..."])
        with self.assertRaises(InvalidChip):
            Index(chip)

    def test_178_records_that_a_kept_tree_needs(self):
        chip = ready_chip(8, 16, 0)
        store = Store(chip)
        for deed in (("file", ("a",)), ("keep", "k"), ("cut", ("a",), 5), ("cut", ("a",), 6), ("drop", ("a",))):
            store.do(deed)
        store.sync()
        self.assertEqual(chart(chip)[0], "0 * hnnndddd........")
        store.do(("let", "k"))
        store.sync()
        self.assertEqual(chart(chip)[0], "0 * hddddddd" + "d.......")

    def test_178_used_chips(self):
        source = dice(178)
        for shape in SHAPES * 4:
            chip = worked_chip(source, shape, None, 0.3, 0.2)
            before = image(chip)
            found = chart(chip)
            self.assertEqual((found, image(chip)), (plain_chart(chip), before))
            index = Index(chip)
            living = sum(len(index.living_in(block)) for block in range(chip.blocks))
            self.assertEqual(sum(row.split(" ")[2].count("n") for row in found), living)

    def test_178_cut_chips(self):
        source, tears = dice(1780), 0
        chip = ready_chip()

        def work(one):
            store = Store(one)
            for name in ("p", "q", "r", "s"):
                store.do(("file", (name,)))
            store.sync()
        for other in each_cut(chip, work, source):
            self.assertEqual(chart(other), plain_chart(other))
            tears += "".join(chart(other)).count("t")
        self.assertGreater(tears, 0)

    def test_178_sound_chips_of_all_kinds(self):
        source = dice(1781)
        for _ in range(150):
            chip = some_sound_chip(source)
            self.assertEqual(chart(chip), plain_chart(chip))

    def test_178_chips_of_any_pages(self):
        source = dice(1782)
        for _ in range(20):
            chip = Chip(8, 8, 1)
            for block in range(8):
                put(chip, block, 0, Head(source.randrange(1, 5), 1, False))
                for page in range(1, 8):
                    data = [source.choice([0, 1, 2, 5, 255]) for _ in range(30)]
                    chip.write(block, page, source.choice([sealed(data), torn(sealed(data)), [255] * 31]))
            self.assertEqual(chart(chip), plain_chart(chip))
            self.assertTrue(any(is_whole(chip.read(3, page)) for page in range(8)))

    def test_178_lists_are_new(self):
        chip = ready_chip()
        chart(chip).clear()
        self.assertEqual(len(chart(chip)), 8)
