"""Points 171 to 173: the findings of the examiner."""

from onewaybits import examiner as module
from onewaybits.blocks import counting, read_block, tail_of
from onewaybits.chip import Chip, image
from onewaybits.cleaner import clean_step, make_room
from onewaybits.errors import InvalidChip, NoRoom, NotReady, PowerCut
from onewaybits.examiner import findings
from onewaybits.groups import living
from onewaybits.meaning import meaning
from onewaybits.pages import sealed, surplus
from onewaybits.records import Chunk, Head, Keep, Name, Node, Seal, is_tree_record, moved, written
from onewaybits.store import Store, make_chip_ready
from onewaybits.writer import Writer
from tests.chips import chip_with, put, record_on, some_sound_chip, torn, twin
from tests.helper import PointTest, dice, some_mask
from tests.test_cleaner import ring
from tests.test_writer import turn_bad
from tests.values import ANY_VALUES
from tests.workshop import (
    SHAPES, WatchedChip, bound_of, each_cut, ready_chip, roomy_chip, some_useful_deed, worked_chip,
)

SESSION = """
>>> from onewaybits.chip import Chip
>>> from onewaybits.examiner import findings
>>> from onewaybits.pages import sealed
>>> from onewaybits.records import Seal, written
>>> from onewaybits.store import make_chip_ready
>>> chip = Chip(8, 8, 1)
>>> [findings(chip), make_chip_ready(chip), findings(chip)]
[[('none',)], None, []]
>>> [chip.write(0, 2, sealed(written(Seal(1, 0)))), findings(chip)]
[True, [('page', 0, 1), ('page', 0, 2)]]
"""
NO_CHIPS = [value for value in ANY_VALUES if not isinstance(value, Chip)]
HEAD, CLEANING = Head(1, 1, False), Head(1, 1, True)
NODE, NAME = Node(7, 0, 2, 2, 1, 0, 0), Name(7, 1, 2, 1, "a", 2)
MOVED = [moved(NODE, 0), moved(NAME, 0)]
WHOLE = sealed([9] * 30)


def node(deed, at=0, of=1, number=2):
    return Node(deed, at, of, number, 1, 0, 0)


def still(deed, until=0, number=2):
    """Return a moved record."""
    return Node(deed, 0, 0, number, 1, 0, 0, until)


def chip_of(*blocks, **more):
    """Return a chip of which the first blocks have these records."""
    return chip_with(dict(enumerate(blocks)), **more)


def pages_found(chip):
    return [found[1:] for found in findings(chip) if found[0] == "page"]


class FindingsTest(PointTest):

    def test_examples(self):
        self.assert_session(SESSION)

    def test_each_name_is_defined_in_its_file(self):
        self.assertEqual(findings.__module__, module.__name__)

    def test_171_values_that_are_no_chip(self):
        for wrong in NO_CHIPS:
            self.assert_invalid(InvalidChip, wrong, findings, wrong)

    def test_171_none_counts(self):
        self.assertEqual(findings(chip=Chip(8, 8, 0)), [("none",)])
        self.assertEqual(findings(chip_of([CLEANING, NODE], [None, HEAD])), [("none",)])
        chip = chip_of([None, HEAD], [], [CLEANING])
        for block, page in ((4, 3), (0, 5), (0, 2)):
            chip.write(block, page, sealed([3] * 30)[:30] + (0,))
        self.assertEqual(findings(chip),
                         [("unsound", 0, 2), ("unsound", 0, 5), ("unsound", 4, 3), ("none",)])

    def test_171_unsound_pages(self):
        chip = ready_chip()
        for block, page in ((7, 7), (2, 0), (5, 1)):
            chip.write(block, page, [255] * 30 + [0])
            self.assertEqual(surplus(chip.read(block, page)), 0)
            chip.write(block, page, [254] + [255] * 30)
            self.assertEqual(surplus(chip.read(block, page)), -1)
        self.assertEqual(findings(chip), [("unsound", 2, 0), ("unsound", 5, 1), ("unsound", 7, 7)])

    def test_171_seals_with_a_tail_above_the_seq(self):
        chip = chip_with({0: [Head(5, 5, False)], 3: [Head(4, 4, True), None, Seal(5, 0)], 6: [None, Seal(9, 0)]})
        self.assertEqual(findings(chip), [("unsound", 3, 2)])
        chip = chip_with({0: [Head(5, 5, False)], 3: [Head(4, 4, True), None, Seal(4, 0)]})
        self.assertEqual(findings(chip), [])
        chip = chip_with({0: [Head(4, 4, True), Seal(9, 0), Seal(4, 1)]})
        self.assertEqual(findings(chip), [("unsound", 0, 1), ("page", 0, 2)])

    def test_171_seqs(self):
        for seqs, wrong in (((1, 2, 3), []), ((1, 3, 4), [1, 2]), ((2, 3, 4), [0, 1, 2]), ((1, 2, 2), [2]),
                            ((1, 2, 4), [2])):
            chip = chip_of(*[[Head(seq, 1, False)] for seq in seqs])
            self.assertEqual(findings(chip), [("seq", block) for block in wrong])
        chip = chip_with({4: [Head(5, 4, False)], 3: [Head(6, 4, False)], 5: [Head(4, 4, False)]})
        self.assertEqual(findings(chip), [("round",)])
        chip = chip_with({4: [Head(6, 4, False)], 3: [Head(7, 4, False)], 5: [Head(4, 4, False)]})
        self.assertEqual(findings(chip), [("seq", 4), ("seq", 3), ("round",)])

    def test_171_the_round(self):
        for order, is_round in (((3, 4, 5), True), ((6, 7, 0), True), ((3, 5, 6), False), ((3, 5), False),
                                ((5, 4), False), ((7, 0), True), ((0, 7), False), ((3,), True), ((3, 4, 6), False),
                                ((0, 1, 2, 3, 4, 5), True), ((4, 5, 6, 7, 0, 2), False)):
            chip = chip_with({block: [Head(1 + k, 1, False)] for k, block in enumerate(order)})
            self.assertEqual(findings(chip), [] if is_round else [("round",)], order)

    def test_171_bad_blocks_are_left_out_of_the_round_if_they_do_not_count(self):
        for order, bad, is_round in (((3, 5, 6), (4,), True), ((3, 5, 6), (5,), False), ((3, 6), (4, 5), True),
                                     ((8, 1, 2), (0,), True), ((3, 4, 5), (4, 7), True), ((3, 5), (6,), False)):
            chip = chip_with({block: [Head(1 + k, 1, False)] for k, block in enumerate(order)}, bad=2, count=9)
            for block in bad:
                turn_bad(chip, block)
            self.assertEqual(findings(chip), [] if is_round else [("round",)], (order, bad))

    def test_171_a_crowd(self):
        for count, bad in ((8, 0), (8, 1), (10, 3)):
            for counted in range(1, count):
                chip = chip_of(*[[Head(1 + k, 1, False)] for k in range(counted)], count=count, bad=bad)
                self.assertEqual(findings(chip), [("crowd", counted)] if counted > count - bad - 1 else [])

    def test_171_torn_pages(self):
        chip = chip_of([HEAD], [Head(2, 1, False)], bad=1)
        for block, page in ((0, 1), (1, 1), (4, 0), (5, 3)):
            chip.write(block, page, torn([255] * 31))
        self.assertEqual(findings(chip), [("torn", 2)])
        turn_bad(chip, 7)
        self.assertEqual(findings(chip), [("torn", 2)])
        chip.cut(chip.ops, 0)
        with self.assertRaises(PowerCut):
            chip.erase(6)
        self.assertEqual(findings(chip), [])
        chip.write(1, 2, torn([255] * 31))
        self.assertEqual(findings(chip), [("torn", 3)])

    def test_171_records_that_tell_no_tree(self):
        for records in ([node(1)], [Name(1, 0, 1, 1, "a", 2)], [Chunk(1, 0, 1, 2, 0, [1] * 16), NODE, NAME][1:] + [
                Node(8, 0, 1, 2, 1, 5, 1)]):
            self.assertEqual(findings(chip_of([HEAD] + records)), [("tree",)])
        keeps = [Keep(1 + k, 0, 1, "abcd"[k], True) for k in range(4)]
        self.assertEqual((findings(chip_of([HEAD] + keeps)), findings(chip_of([HEAD] + keeps[:3]))), ([("tree",)], []))

    def test_171_full(self):
        for counts, count in (((6, 6, 6, 3), 21), ((6, 6, 6, 2), None), ((6, 6, 6, 6), 24)):
            chip = ring(counts, bad=1)
            found = [found for found in findings(chip) if found[0] == "full"]
            self.assertEqual((found, living(meaning(chip))), ([("full", count)] if count else [], sum(counts)))
        chip = ring((6, 6, 6, 2), bad=1)
        writer = Writer(chip)
        writer.open_block(False)
        writer.put([Keep(9, 0, 1, "k", True)])
        self.assertEqual(findings(chip)[-1], ("full", 41))

    def test_171_several_together_in_order(self):
        chip = chip_of([Head(2, 2, False), NODE], [Head(3, 2, False), None, NAME], [Head(5, 2, False)],
                       [Head(6, 2, False), node(9)], [Head(7, 2, False)], [Head(8, 2, False)], [], [Head(9, 2, False)],
                       bad=1)
        chip.write(4, 1, torn([255] * 31))
        chip.write(6, 3, [254] + [255] * 29 + [0])
        self.assertEqual(findings(chip), [
            ("unsound", 6, 3), ("seq", 2), ("seq", 3), ("seq", 4), ("seq", 5), ("seq", 7), ("round",), ("crowd", 7),
            ("page", 1, 1), ("page", 1, 2), ("torn", 1), ("tree",)])

    def test_171_pages_ascend_by_block_and_not_by_seq(self):
        chip = chip_with({7: [HEAD, None, NODE, NAME], 0: [Head(2, 1, False), NAME, NODE],
                          1: [Head(3, 1, False), Seal(1, 0)]})
        self.assertEqual(findings(chip), [("page", 0, 1), ("page", 0, 2), ("page", 1, 1), ("page", 7, 1)])

    def test_171_it_does_no_op_and_its_lists_are_new(self):
        chip = ready_chip()
        before = image(chip)
        found = findings(chip)
        found.append(1)
        self.assertEqual((findings(chip), image(chip), type(found)), ([], before, list))
        self.assertEqual([type(one) for one in findings(Chip(8, 8, 0))], [tuple])


class PlacesTest(PointTest):
    """Each of the eight ways in which a page is out of place, by itself."""

    def assert_pages(self, chip, *pages):
        self.assertEqual(pages_found(chip), list(pages))

    def test_172_a_clean_page_ahead_of_another_one(self):
        chip = chip_of([HEAD, NODE, NAME])
        self.assert_pages(chip)
        chip.write(0, 5, torn([255] * 31))
        self.assert_pages(chip, (0, 3), (0, 4))
        self.assert_pages(chip_of([HEAD, None, NODE, NAME]), (0, 1))
        self.assert_pages(chip_of([HEAD], [None, NODE, None, NODE]))

    def test_172_the_last_page_of_a_plain_block(self):
        chip = chip_of([HEAD] + [Keep(1 + k, 0, 1, "abc"[k // 2], k % 2 == 0) for k in range(6)])
        self.assert_pages(chip)
        for octets in (sealed(written(Keep(9, 0, 1, "z", False))), torn([255] * 31)):
            other = twin(chip)
            other.write(0, 7, octets)
            self.assert_pages(other, (0, 7))
        chip = chip_of([CLEANING, Seal(1, 0)] + [Keep(1 + k, 0, 1, "abc"[k // 2], k % 2 == 0) for k in range(6)])
        self.assertEqual(findings(chip), [])

    def test_172_whole_pages_that_tell_something_else(self):
        heads = [sealed(written(head)) for head in (HEAD, Head(9, 1, True))]
        for octets in [WHOLE, sealed([255] * 30)] + heads:
            chip = chip_of([HEAD, NODE, NAME])
            chip.write(0, 3, octets)
            self.assert_pages(chip, (0, 3))
            chip.write(1, 3, octets)
            self.assert_pages(chip, (0, 3))
        chip = chip_of([HEAD, NODE, NAME])
        chip.write(0, 3, torn([255] * 31))
        self.assertEqual(findings(chip), [("torn", 1)])

    def test_172_seals(self):
        self.assert_pages(chip_of([CLEANING] + MOVED + [Seal(1, 2)]))
        self.assert_pages(chip_of([CLEANING, Seal(1, 0)]))
        self.assert_pages(chip_of([HEAD, Seal(1, 0)]), (0, 1))
        self.assert_pages(chip_of([CLEANING] + MOVED + [Seal(1, 1)]), (0, 3))
        self.assert_pages(chip_of([CLEANING] + MOVED + [Seal(1, 3)]), (0, 3))
        self.assert_pages(chip_of([CLEANING] + MOVED + [Seal(1, 2), Seal(1, 2)]), (0, 4))
        self.assert_pages(chip_of([CLEANING, NODE, NAME, Seal(1, 2)]), (0, 3))
        self.assert_pages(chip_of([CLEANING, MOVED[0], None, Seal(1, 2)]), (0, 2), (0, 3))
        chip = chip_of([CLEANING, MOVED[0], None, Seal(1, 2)])
        chip.write(0, 2, torn([255] * 31))
        self.assert_pages(chip, (0, 3))

    def test_172_moved_records_stand_first_in_a_cleaning_block(self):
        self.assert_pages(chip_of([HEAD] + MOVED), (0, 1), (0, 2))
        self.assert_pages(chip_of([HEAD, NODE, NAME, moved(Keep(3, 0, 1, "k", False), 0)]), (0, 3))
        self.assert_pages(chip_of([CLEANING, Seal(1, 0)] + MOVED), (0, 2), (0, 3))
        self.assert_pages(chip_of([CLEANING, MOVED[0], Seal(1, 1), MOVED[1]]), (0, 3))
        self.assert_pages(chip_of([CLEANING, Keep(3, 0, 1, "k", False), MOVED[0], MOVED[1], Seal(1, 0)]),
                          (0, 2), (0, 3), (0, 4))
        chip = chip_of([CLEANING, None] + MOVED + [Seal(1, 3)])
        chip.write(0, 1, torn([255] * 31))
        self.assert_pages(chip, (0, 2), (0, 3), (0, 4))

    def test_172_moved_records_and_those_ahead_of_them(self):
        for first, second, is_right in (
            (still(5), still(5), False), (still(5, 8), still(5, 8), False), (still(5, 9), still(5), False),
            (still(5, 8), still(8), True), (still(5, 7), still(8), True), (still(5, 9), still(8), False),
            (still(5), still(8), True), (still(5), still(8, 9), False), (still(5, 8), still(8, 9), True),
            (still(8), still(5, 8), True), (still(8), still(5, 7), True), (still(8), still(5, 9), False),
            (still(8), still(5), False), (still(8, 9), still(5), False), (still(8, 9), still(5, 6), True),
            (still(8), still(5, 0, 3), True), (still(5, 9), still(8, 0, 3), True),
        ):
            pages = [] if is_right else [(0, 2)]
            self.assert_pages(chip_of([CLEANING, first, second, Seal(1, 2)]), *pages)
            pages = [] if is_right else [(1, 1)]
            self.assert_pages(chip_of([CLEANING, first, Seal(1, 1)], [Head(2, 1, True), second, Seal(1, 1)]), *pages)
            if first.until == 0:
                self.assert_pages(chip_of([HEAD, node(first.deed)], [Head(2, 1, True), second, Seal(1, 1)]), *pages)

    def test_172_records_that_do_not_count_clash_with_none(self):
        chip = chip_of([HEAD, node(5, 0, 2)], [Head(2, 1, True), moved(node(5), 0), Seal(1, 1)])
        self.assert_pages(chip)
        chip = chip_of([HEAD, node(5)], [Head(2, 2, True), moved(node(5), 0), Seal(2, 1)])
        self.assert_pages(chip)

    def test_172_a_group_behind_newer_records(self):
        for ahead, deed, is_right in (
            (node(5), 6, True), (node(5), 5, False), (node(5), 4, False), (node(5, 0, 2), 4, False),
            (node(5, 0, 2), 5, False), (node(5, 0, 2), 6, True),
        ):
            begin = [Keep(deed, 0, 1, "k", False)]
            self.assert_pages(chip_of([HEAD, ahead] + begin), *([] if is_right else [(0, 2)]))
            self.assert_pages(chip_of([HEAD, ahead], [Head(2, 1, False)] + begin), *([] if is_right else [(1, 1)]))
            turned = chip_of([Head(2, 1, False), ahead], [Head(1, 1, False)] + begin)
            self.assert_pages(turned, *([(0, 1)] if deed >= 5 else []))
            self.assert_pages(chip_of([Head(2, 2, False)] + begin, [Head(1, 1, False), ahead]))

    def test_172_a_group_behind_moved_records(self):
        for until, deed, is_right in ((0, 5, True), (0, 4, False), (7, 7, True), (7, 6, False), (7, 8, True)):
            ahead, begin = moved(node(5), until), Keep(deed, 0, 1, "k", False)
            self.assert_pages(chip_of([CLEANING, ahead, Seal(1, 1), begin]), *([] if is_right else [(0, 3)]))
            chip = chip_of([CLEANING, ahead, Seal(1, 1)], [Head(2, 1, False), begin])
            self.assert_pages(chip, *([] if is_right else [(1, 1)]))

    def test_172_a_group_once_more_behind_a_bad_block(self):
        chip = chip_of([HEAD, NODE, NAME], [Head(2, 1, False), NODE, NAME], bad=1)
        self.assert_pages(chip, (1, 1))
        other = twin(chip)
        turn_bad(chip, 0)
        self.assert_pages(chip)
        turn_bad(other, 1)
        self.assert_pages(other, (1, 1))
        chip = chip_of([HEAD, NODE], [Head(2, 1, False), NODE, NAME], [Head(3, 1, False), NODE, NAME], bad=2, count=9)
        turn_bad(chip, 0)
        self.assert_pages(chip, (2, 1))
        turn_bad(chip, 1)
        self.assert_pages(chip)

    def test_172_a_later_record_of_a_group(self):
        self.assert_pages(chip_of([HEAD, NAME]), (0, 1))
        self.assert_pages(chip_of([HEAD, NODE, node(7, 1, 2, 3)]))
        for ahead in (node(6, 0, 2), node(7, 0, 3), Node(7, 1, 3, 2, 1, 0, 0), moved(NODE, 0)):
            chip = chip_of([CLEANING, Seal(1, 0), ahead, NAME])
            self.assertIn((0, 3), pages_found(chip))
        chip = chip_of([HEAD, NODE, None, NAME])
        chip.write(0, 2, torn([255] * 31))
        self.assert_pages(chip, (0, 3))
        self.assert_pages(chip_of([HEAD, NODE], [Head(2, 1, False), NAME]), (1, 1))

    def test_172_a_later_record_with_a_key_once_more(self):
        self.assert_pages(chip_of([HEAD, NODE, node(7, 1, 2)]), (0, 2))
        self.assert_pages(chip_of([HEAD, node(7, 0, 3), Name(7, 1, 3, 1, "a", 2), node(7, 2, 3)]), (0, 3))
        self.assert_pages(chip_of([CLEANING, moved(node(7), 0), Seal(1, 1), Keep(7, 0, 2, "k", False), node(7, 1, 2)]))
        self.assert_pages(chip_of([HEAD, node(6), Keep(7, 0, 2, "k", False), node(7, 1, 2)]))
        self.assert_pages(chip_of([HEAD, node(7), Keep(7, 0, 2, "k", False), node(7, 1, 2)]), (0, 2), (0, 3))
        chip = chip_of([HEAD, NODE, NAME], [Head(2, 1, False), NODE, NAME], bad=1)
        turn_bad(chip, 0)
        self.assert_pages(chip)

    def test_172_over_more_than_one_block_in_the_order_of_seqs(self):
        chip = chip_with({7: [HEAD, node(5)], 0: [Head(2, 1, False), Keep(4, 0, 1, "k", False)],
                          1: [Head(3, 1, False), Keep(5, 0, 1, "k", False)]})
        self.assertEqual(findings(chip), [("page", 0, 1), ("page", 1, 1), ("tree",)])

    def test_172_blocks_that_do_not_count(self):
        chip = chip_of([Head(5, 5, False)], [HEAD, None, Seal(1, 0)], [Head(2, 1, True), NAME, MOVED[0]])
        self.assertEqual(findings(chip), [])


def plain_pages(chip):
    """Return what point 172 tells, told anew page by page."""
    ahead, found = [], []
    for block in counting(chip):
        records = [record_on(chip, block, page) for page in range(chip.pages)]
        counts = [page for page, _ in read_block(chip, block).records]
        for page in range(1, chip.pages):
            if is_out(chip, block, page, records, ahead):
                found.append((block, page))
            if is_tree_record(records[page]):
                ahead.append((block, page, records[page], page in counts))
    return sorted(found)


def is_out(chip, block, page, records, ahead):
    octets, record, last = chip.read(block, page), records[page], chip.pages - 1
    cleaning = records[0].is_cleaning
    behind_moved = cleaning and all(is_tree_record(one) and one.of == 0 for one in records[1:page])
    if set(octets) == {255}:
        return any(set(chip.read(block, other)) != {255} for other in range(page, chip.pages))
    if page == last and not cleaning:
        return True
    if surplus(octets) != 0:
        return False
    if isinstance(record, Seal):
        return not (behind_moved and record.count == page - 1)
    if not is_tree_record(record):
        return True
    if record.of == 0:
        return not behind_moved or any(clash(one, record) for _, _, one, counts in ahead if counts)
    if record.at == 0:
        return any(one.deed > record.deed or one.until > record.deed or (
            one.of > 0 and not chip.is_bad(there) and one.deed == record.deed) for there, _, one, _ in ahead)
    before = records[page - 1]
    goes_on = is_tree_record(before) and (before.deed, before.of, before.at + 1) == (record.deed, record.of, record.at)
    return not goes_on or any(there == block and one.of > 0 and (one.deed, one.key()) == (record.deed, record.key())
                              for there, _, one, _ in ahead)


def clash(ahead, record):
    if ahead.key() != record.key():
        return False
    if ahead.deed == record.deed:
        return True
    lesser, greater = sorted([ahead, record], key=lambda one: one.deed)
    return lesser.until > greater.deed or lesser.until == 0 and (greater is ahead or greater.until > 0)


class ManyChipsTest(PointTest):

    def test_172_chips_of_all_kinds(self):
        source, some = dice(172), 0
        for _ in range(200):
            chip = some_sound_chip(source)
            if counting(chip):
                self.assertEqual(pages_found(chip), plain_pages(chip))
                some += len(plain_pages(chip)) > 0
        self.assertGreater(some, 80)

    def test_172_used_chips_with_one_page_more(self):
        source, none = dice(1720), 0
        for shape in SHAPES * 4:
            chip = worked_chip(source, shape, 25, 0.1, 0.1)
            records = [record_on(chip, block, page) for block in range(chip.blocks) for page in range(chip.pages)]
            records = [record for record in records if is_tree_record(record) or isinstance(record, Seal)] + [HEAD]
            for _ in range(15):
                other = twin(chip)
                block = source.choice(counting(chip))
                next_page = min(chip.pages - 1, read_block(chip, block).next_page)
                page = source.choice([source.randrange(1, chip.pages), next_page])
                if set(other.read(block, page)) == {255}:
                    other.write(block, page, sealed(written(source.choice(records))))
                    self.assertEqual(pages_found(other), plain_pages(other))
                    none += not findings(other)
        self.assertGreater(none, 10)

    def test_173_at_each_moment(self):
        source = dice(173)
        for shape in SHAPES + [(24, 16, 4)]:
            chip, seen = WatchedChip(*shape), []
            chip.watch = lambda: seen.append(findings(chip))
            make_chip_ready(chip)
            store = Store(chip)
            for _ in range(70):
                if source.random() < 0.12:
                    chip.cut(chip.ops + source.randrange(12), some_mask(source))
                if source.random() < 0.04:
                    chip.fail(chip.ops + source.randrange(12), some_mask(source))
                try:
                    store.do(some_useful_deed(source, store.tree(), bound_of(chip)))
                    if source.random() < 0.03:
                        store.sync()
                        clean_step(Writer(chip))
                        store = Store(chip)
                    if source.random() < 0.02:
                        store.sync()
                        make_chip_ready(chip)
                        store = Store(chip)
                except PowerCut:
                    store = Store(chip)
            self.assertEqual(seen[0], [("none",)])
            self.assertEqual([found for found in seen[1:] if found], [])

    def test_173_at_each_moment_of_making_ready(self):
        source = dice(1730)
        for chip in (WatchedChip(8, 8, 0), worked_chip(source, (8, 8, 1), 20)):
            had_none = findings(chip) == []
            for other in each_cut(chip, make_chip_ready, source):
                self.assertIn(findings(other), [[]] if had_none else [[], [("none",)]])
                make_chip_ready(other)
                self.assertEqual(findings(other), [])

    def test_173_any_chip_without_findings_goes_on_as_one(self):
        source, others = dice(1731), 0
        while others < 25:
            chip = self.some_chip_without_findings(source)
            if chip is None:
                continue
            others += 1
            store, seen = Store(chip), []
            chip.watch = lambda: seen.append(findings(chip))
            for _ in range(25):
                if source.random() < 0.1:
                    chip.cut(chip.ops + source.randrange(12), some_mask(source))
                if source.random() < 0.04:
                    chip.fail(chip.ops + source.randrange(12), some_mask(source))
                try:
                    store.do(some_useful_deed(source, store.tree(), bound_of(chip)))
                except PowerCut:
                    store = Store(chip)
            self.assertEqual([found for found in seen if found], [])

    def some_chip_without_findings(self, source):
        """Return a chip that no store has written so, with other numbers and junk in blocks that do not count."""
        chip = roomy_chip(source, source.choice(SHAPES))
        other = WatchedChip(chip.blocks, chip.pages, chip.bad)
        seqs, deeds, way = source.randrange(900), source.randrange(900), source.randrange(chip.blocks)
        for block in counting(chip):
            for page in range(chip.pages):
                record = record_on(chip, block, page)
                if record is not None:
                    put(other, (block + way) % chip.blocks, page, self.with_other_numbers(record, seqs, deeds))
                else:
                    other.write((block + way) % chip.blocks, page, chip.read(block, page))
        junk = [block for block in range(other.blocks) if block not in counting(other)]
        for block in junk[:2]:
            head = Head(tail_of(other), tail_of(other), True)
            put(other, block, 0, head, Node(4000, 0, 1, 4000, 1, 0, 0), NODE)
        other.log = []
        return other if findings(other) == [] else None

    def with_other_numbers(self, record, seqs, deeds):
        if isinstance(record, Head):
            return Head(record.seq + seqs, record.tail + seqs, record.is_cleaning)
        if isinstance(record, Seal):
            return Seal(record.tail + seqs, record.count)
        told = dict(vars(record))
        told["deed"] += deeds
        told["until"] += deeds if record.until else 0
        return type(record)(**told)

    def test_173_functions_of_stage_12_leave_no_findings(self):
        source = dice(1732)
        for shape in SHAPES:
            chip, seen = worked_chip(source, shape), []
            chip.watch = lambda: seen.append(findings(chip))
            for _ in range(8):
                try:
                    make_room(Writer(chip), source.randrange(1, 7))
                    clean_step(Writer(chip))
                except (NoRoom, NotReady):
                    break
            self.assertEqual([found for found in seen if found], [])
