"""Points 111 to 117: what an index tells of a chip that it has read, and when it tells something else."""

from onewaybits import index as module
from onewaybits.blocks import counting, read_block, tail_of
from onewaybits.chip import Chip, image
from onewaybits.errors import InvalidBlock, InvalidChip, NotReady
from onewaybits.groups import living
from onewaybits.index import Index
from onewaybits.meaning import counting_records, last_number, meaning
from onewaybits.pages import is_clean, is_whole, sealed
from onewaybits.records import Chunk, Head, Keep, Name, Node, Seal, moved, written
from onewaybits.tree import Tree
from tests.chips import (
    chip_with, clean_blocks, cleaning_records, is_regular, lot_sizes, masks, needed_places, places_on, plan_some, put,
    some_groups, some_sound_chip, torn, try_op, twin, used_chip,
)
from tests.helper import NO_INTS, PointTest, dice
from tests.plain import NOW, is_in_order, plain_needed, plain_selected
from tests.values import ANY_VALUES

SESSION = """
>>> from onewaybits.chip import Chip
>>> from onewaybits.index import Index
>>> from onewaybits.pages import sealed
>>> from onewaybits.records import Head, Name, Node, moved, written
>>> chip, name = Chip(8, 8, 0), Name(7, 1, 2, 1, "a", 5)
>>> [chip.write(3, 0, sealed(written(Head(4, 2, False)))), chip.write(3, 1, sealed(written(Node(7, 0, 2, 5, 1, 0, 0))))]
[True, True]
>>> index = Index(chip)
>>> [index.blocks, index.seq, index.tail, index.next_page, index.next_number, index.next_id, index.place_of(("node", 5))]
[(3,), 4, 2, 2, 8, 6, None]
>>> [chip.write(3, 2, sealed(written(name))), index.next_page, index.read_again(), index.next_page]
[True, 2, None, 3]
>>> [index.place_of(("name", 1, "a")) == (3, 2, name), len(index.living_in(3)), index.moved_in(3)[1] == moved(name, 0)]
[True, 2, True]
>>> [index.living_in(4), index.tree().listing(())]
[[], ['a']]
"""  # noqa: E501
METHODS = ["place_of", "living_in", "moved_in", "tree", "read_again"]
NUMBERS = ["head", "seq", "tail", "next_page", "next_number", "next_id"]
HEAD = Head(4, 2, False)
NODE, NAME = Node(7, 0, 2, 5, 1, 0, 0), Name(7, 1, 2, 1, "a", 5)
OTHER_KEYS = [
    ("node", 1), ("node", 65536), ("node",), (), ("name", 1), ("name", 1, "no"), ("chunk", 9, 9), ("keep", "no"),
    ("node", "5"),
    ("node", 5, 5), ("name", "a", 1), ("keep", 1), ["node", 5], ("node", [5]), ("node", (5,)), ("node", {}),
    ("node", None),
    ({}, 5), (["node"], 5), (("node", 5),), "node", ("no", 5), ("name", 1, ["a"]), ("chunk", 5, Tree()), (Tree(), 5),
    ("node", NODE),
]


def all_of(index):
    """Return all that an index tells."""
    chip = index.chip
    keys = sorted({record.key() for block in range(chip.blocks) for _, record in read_block(chip, block).all_records})
    return (
        index.blocks, [getattr(index, name) for name in NUMBERS], [index.place_of(key) for key in keys],
        [(index.living_in(block), index.moved_in(block)) for block in range(chip.blocks)], index.tree().whole(),
    )


def places_of(index, records):
    return [index.place_of(record.key()) for record in records]


def is_in_line(chip):
    """Tell what point 117 calls an index in line."""
    records = [record for _, _, record in places_on(chip)]
    return is_in_order(records) and not any(
        first.key() == second.key() and first.until == second.until == 0 and first.deed > second.deed
        for k, first in enumerate(records) for second in records[k + 1:])


class IndexTest(PointTest):

    def test_examples(self):
        self.assert_session(SESSION)

    def test_each_listed_method_is_defined_in_the_class(self):
        for name in METHODS:
            self.assertIn(name, vars(Index))
        self.assertEqual(Index.__module__, module.__name__)

    def test_9_arguments_by_name(self):
        index = Index(chip=chip_with({3: [HEAD, NODE, NAME]}))
        self.assertEqual(index.place_of(key=("node", 5)), (3, 1, NODE))
        self.assertEqual((index.living_in(block=3), index.moved_in(block=4)), ([NODE, NAME], []))

    def test_111_wrong_chips(self):
        for wrong in [value for value in ANY_VALUES if not isinstance(value, Chip)]:
            self.assert_invalid(InvalidChip, wrong, Index, wrong)
        for chip in (Chip(8, 8, 0), chip_with({3: [Head(4, 2, True), NODE, NAME]}), chip_with({3: [None, HEAD]}),
                     chip_with({3: [Head(4, 2, True), NODE]})):
            with self.assertRaises(NotReady):
                Index(chip)
        four = [Keep(deed, 0, 1, name, True) for deed, name in enumerate("abcd", 1)]
        for records in ([Node(7, 0, 1, 5, 1, 0, 0)], four, [Name(7, 0, 1, 2, "a", 5)]):
            chip = chip_with({3: [HEAD] + records})
            self.assert_invalid(InvalidChip, chip, Index, chip)

    def test_111_attributes(self):
        chip = chip_with({6: [Head(2, 2, False), NODE, NAME], 1: [Head(5, 2, False), None, moved(NODE, 30)],
                          4: [Head(3, 1, False)]})
        before = image(chip)
        index = Index(chip)
        self.assertIs(index.chip, chip)
        self.assertEqual((index.blocks, index.head, index.seq, index.tail), ((6, 4, 1), 1, 5, 2))
        self.assertEqual((index.next_page, index.next_number, index.next_id), (3, 31, 6))
        self.assertEqual([type(getattr(index, name)) for name in NUMBERS], [int] * 6)
        self.assertIs(type(index.blocks), tuple)
        self.assertEqual(image(chip), before)

    def test_111_an_empty_chip(self):
        index = Index(chip_with({3: [Head(1, 1, False)]}))
        self.assertEqual((index.blocks, [getattr(index, name) for name in NUMBERS]), ((3,), [3, 1, 1, 1, 1, 2]))
        self.assertEqual((index.tree(), index.living_in(3), index.moved_in(3)), (Tree(), [], []))

    def test_111_next_page(self):
        for records, page in (([HEAD], 1), ([HEAD, NODE, NAME], 3), ([HEAD] + [Seal(2, 0)] * 7, 8),
                              ([HEAD, None, None, NODE], 4)):
            self.assertEqual(Index(chip_with({3: records})).next_page, page)
        chip = chip_with({3: [HEAD]})
        chip.write(3, 4, torn([255] * 31, 200))
        self.assertEqual(Index(chip).next_page, 5)

    def test_111_numbers_of_records_that_do_not_count(self):
        chip = chip_with({3: [HEAD, NODE, NAME, Node(20, 1, 2, 9, 1, 0, 0)]})
        self.assertEqual((Index(chip).next_number, Index(chip).next_id), (21, 10))
        put(chip, 4, 0, Head(1, 1, False), Node(50, 0, 2, 90, 1, 0, 0))
        self.assertEqual((Index(chip).next_number, Index(chip).next_id), (21, 10))
        put(chip, 3, 4, moved(NODE, 400))
        self.assertEqual((Index(chip).next_number, Index(chip).next_id), (401, 10))

    def test_111_as_told_anew(self):
        source = dice(111)
        for _ in range(40):
            chip, tree = used_chip(source, steps=source.randrange(20))
            index = Index(chip)
            head = counting(chip)[-1]
            self.assertEqual((index.blocks, index.head), (tuple(counting(chip)), head))
            self.assertEqual((index.seq, index.next_page),
                             (read_block(chip, head).head.seq, read_block(chip, head).next_page))
            self.assertEqual((index.tail, index.next_number), (tail_of(chip), last_number(chip) + 1))
            self.assertEqual((index.tree(), index.tree().next_id, index.next_id),
                             (tree, meaning(chip).next_id, meaning(chip).next_id))

    def test_112_and_113_places_and_what_is_to_be_moved_as_told_anew(self):
        source = dice(112)
        for _ in range(40):
            chip, tree = used_chip(source, steps=source.randrange(25))
            index, places = Index(chip), places_on(chip)
            records = [record for _, _, record in places]
            for key in {record.key() for record in records}:
                chosen = plain_selected(records, key, NOW)
                self.assertEqual(index.place_of(key), None if chosen is None else places[chosen])
            needed = plain_needed(records)
            for block in range(8):
                self.assertEqual(index.living_in(block), [places[k][2] for k in needed if places[k][0] == block])
                self.assertEqual(index.moved_in(block),
                                 [record for there, _, record in needed_places(chip) if there == block])
            count = sum(len(index.living_in(block)) for block in range(8))
            self.assertLessEqual(count, living(tree))
            if not tree.kept_names():
                self.assertEqual(count, living(tree))

    def test_112_places(self):
        index = Index(chip_with({3: [HEAD, NODE, NAME],
                                 1: [Head(5, 2, False), Name(9, 1, 2, 1, "a", 0), Node(9, 0, 2, 5, 0, 0, 0)]}))
        self.assertEqual(index.place_of(("node", 5)), (1, 2, Node(9, 0, 2, 5, 0, 0, 0)))
        self.assertEqual(index.place_of(("name", 1, "a")), (1, 1, Name(9, 1, 2, 1, "a", 0)))
        self.assertIs(type(index.place_of(("node", 5))), tuple)
        self.assertEqual([index.living_in(block) for block in range(8)], [[]] * 8)

    def test_112_which_of_several_records(self):
        twice = {6: [Head(2, 1, False), NODE, NAME], 1: [Head(5, 1, False), NODE, NAME, NAME]}
        index = Index(chip_with(twice))
        self.assertEqual((index.place_of(NODE.key())[:2], index.place_of(NAME.key())[:2]), ((1, 1), (1, 3)))
        twice[1][0] = Head(1, 1, False)
        index = Index(chip_with(twice))
        self.assertEqual((index.place_of(NODE.key())[:2], index.place_of(NAME.key())[:2]), ((6, 1), (6, 2)))
        twice[1][0] = Head(2, 1, False)
        index = Index(chip_with(twice))
        self.assertEqual((index.blocks, index.place_of(NODE.key())[:2], index.living_in(1)), ((1, 6), (6, 1), []))

    def test_112_records_with_an_until_have_no_place(self):
        index = Index(chip_with({3: [HEAD, moved(NODE, 9), moved(NAME, 9), Keep(8, 0, 1, "k", True)]}))
        self.assertEqual([index.place_of(NODE.key()), index.place_of(NAME.key()), index.place_of(("keep", "k"))[1]],
                         [None, None, 3])
        self.assertEqual(index.living_in(3), [moved(NODE, 9), moved(NAME, 9), Keep(8, 0, 1, "k", True)])

    def test_112_a_chunk_that_is_not_there_has_a_place(self):
        chunk = Chunk(8, 0, 2, 5, 0, [1] * 16)
        index = Index(chip_with({3: [HEAD, NODE, NAME, chunk, Node(8, 1, 2, 5, 1, 0, 0)]}))
        self.assertEqual((index.place_of(chunk.key()), chunk in index.living_in(3)), ((3, 3, chunk), False))

    def test_112_any_other_value(self):
        chunk, keep = Chunk(7, 2, 4, 5, 1, [1] * 16), Keep(8, 0, 1, "k", True)
        records = [Node(7, 0, 4, 5, 1, 32, 2), Name(7, 1, 4, 1, "a", 5), chunk, Name(7, 3, 4, 1, "b", 0)]
        index = Index(chip_with({3: [HEAD] + records + [keep]}))
        self.assertEqual([index.place_of(record.key())[1] for record in records + [keep]], [1, 2, 3, 4, 5])
        for value in ANY_VALUES + OTHER_KEYS + [("name", True, "a"), ("chunk", 5, True), ["keep", "k"],
                                                ("chunk", 5, 1, 1)]:
            self.assertIs(index.place_of(value), None, value)

    def test_113_untils(self):
        chip = chip_with({3: [
            HEAD, NODE, NAME, Keep(8, 0, 1, "k", True), Node(9, 0, 1, 5, 1, 10, 0), Node(12, 0, 1, 5, 1, 20, 0),
            moved(NAME, 0)],
            4: [Head(3, 2, False), Node(10, 0, 1, 5, 1, 30, 0), Keep(10, 0, 1, "old", True)]})
        index = Index(chip)
        self.assertEqual(index.blocks, (4, 3))
        self.assertEqual(index.living_in(3), [NODE, Keep(8, 0, 1, "k", True), Node(12, 0, 1, 5, 1, 20, 0),
                                              moved(NAME, 0)])
        self.assertEqual(index.moved_in(3), [moved(NODE, 9), Keep(8, 0, 0, "k", True), Node(12, 0, 0, 5, 1, 20, 0),
                                             moved(NAME, 0)])
        self.assertEqual(index.moved_in(4), [Node(10, 0, 0, 5, 1, 30, 0, 12), Keep(10, 0, 0, "old", True)])

    def test_113_an_own_until_stays(self):
        chip = chip_with({3: [HEAD, Keep(8, 0, 1, "k", True), moved(NODE, 20), moved(NAME, 20),
                              Name(11, 0, 0, 1, "a", 0)]})
        self.assertEqual(Index(chip).moved_in(3)[1:], [moved(NODE, 20), moved(NAME, 20)])

    def test_113_lists_are_new(self):
        index = Index(chip_with({3: [HEAD, NODE, NAME]}))
        for call in (index.living_in, index.moved_in):
            for block in (3, 4):
                before = call(block)
                self.assertIs(type(before), list)
                call(block).append(1)
                self.assertEqual(call(block), before)

    def test_113_wrong_blocks(self):
        index = Index(chip_with({3: [HEAD, NODE, NAME]}))
        for wrong in NO_INTS + [-1, 8, 2 ** 70, Tree()]:
            self.assert_invalid(InvalidBlock, wrong, index.living_in, wrong)
            self.assert_invalid(InvalidBlock, wrong, index.moved_in, wrong)
        self.assertEqual((index.living_in(7), index.moved_in(0)), ([], []))

    def test_113_a_new_tree_on_each_call(self):
        index = Index(chip_with({3: [HEAD, NODE, NAME, Keep(8, 0, 1, "k", True), Node(20, 1, 2, 9, 1, 0, 0)]}))
        tree = index.tree()
        self.assertEqual((type(tree), tree.next_id, tree.kept_names()), (Tree, 10, ["k"]))
        tree.do(("file", ("n",)))
        tree.do(("let", "k"))
        self.assertEqual((index.tree().listing(()), index.tree().kept_names(), index.next_id), (["a"], ["k"], 10))

    def test_114_an_index_tells_what_it_told_until_it_is_read_again(self):
        source = dice(114)
        for _ in range(30):
            chip, tree = used_chip(source, steps=source.randrange(12))
            index, other = Index(chip), Index(chip)
            before = all_of(index)
            keys = [record.key() for record in counting_records(chip)]
            places = [index.place_of(key) for key in keys]
            self.change(chip, source, index)
            self.assertEqual((index.blocks, index.tree().whole()), (before[0], before[4]))
            self.assertEqual([getattr(index, name) for name in NUMBERS], before[1])
            self.assertEqual([index.place_of(key) for key in keys], places)
            self.assertEqual([(index.living_in(block), index.moved_in(block)) for block in range(8)], before[3])
            self.assertIs(index.read_again(), None)
            self.assertEqual(all_of(index), all_of(Index(chip)))
            self.assertEqual((other.blocks, [getattr(other, name) for name in NUMBERS]), (before[0], before[1]))
            self.assertIs(index.chip, chip)

    def change(self, chip, source, index):
        """Do some ops on a chip: a group, a cut, a new block, a new beginning."""
        page, head = index.next_page, index.head
        records = some_groups(source, 1, index.tree(), index.next_number)[1][0]
        if page + len(records) < 8:
            for at, record in enumerate(records):
                plan_some(chip, source)
                try_op(chip.write, head, page + at, sealed(written(record)))
        if source.random() < 0.5 and clean_blocks(chip):
            put(chip, clean_blocks(chip)[0], 0, Head(index.seq + 1, source.choice([index.tail, index.seq + 1]), False))

    def test_114_an_error_leaves_the_index_as_it_was(self):
        chip = chip_with({3: [HEAD, NODE, NAME]})
        index = Index(chip)
        before = all_of(index)[:4]
        put(chip, 3, 3, Node(9, 0, 1, 6, 1, 0, 0))
        self.assert_invalid(InvalidChip, chip, index.read_again)
        self.assertEqual(all_of(index)[:2] + (all_of(index)[3],), before[:2] + (before[3],))
        chip.erase(3)
        with self.assertRaises(NotReady):
            index.read_again()
        self.assertEqual((index.blocks, index.next_page, index.living_in(3)), ((3,), 3, [NODE, NAME]))
        self.assertEqual(index.tree().listing(()), ["a"])
        put(chip, 3, 0, Head(9, 9, False))
        self.assertIs(index.read_again(), None)
        self.assertEqual((index.seq, index.tail, index.place_of(NODE.key()), index.tree()), (9, 9, None, Tree()))

    def test_114_indexes_of_one_chip_share_nothing(self):
        chip = chip_with({3: [HEAD, NODE, NAME]})
        first, second = Index(chip), Index(chip)
        put(chip, 3, 3, Keep(9, 0, 1, "k", True))
        first.read_again()
        self.assertEqual((first.next_number, second.next_number), (10, 8))
        self.assertEqual((first.tree().kept_names(), second.tree().kept_names()), (["k"], []))

    def some_group_for(self, source, room=1):
        """Return a used chip, its index, and a group at its tree that fits into the head."""
        while True:
            chip, _ = used_chip(source, steps=source.randrange(10))
            index = Index(chip)
            tree = index.tree()
            tree.next_id += source.choice([0, 0, 5])
            behind, groups = some_groups(source, 1, tree, index.next_number)
            if index.next_page + len(groups[0]) <= 8 and room:
                return chip, index, behind, groups[0]

    def test_115_a_whole_group(self):
        source = dice(115)
        for _ in range(40):
            chip, index, behind, records = self.some_group_for(source)
            keys = {record.key() for record in counting_records(chip)} - {record.key() for record in records}
            places, number, page = [index.place_of(key) for key in keys], index.next_number, index.next_page
            put(chip, index.head, page, *records)
            index.read_again()
            self.assertEqual(places_of(index, records),
                             [(index.head, page + at, record) for at, record in enumerate(records)])
            self.assertEqual([index.place_of(key) for key in keys], places)
            self.assertEqual((index.next_number, index.next_page), (number + 1, page + len(records)))
            self.assertEqual(index.tree(), behind)
            self.assertTrue(is_in_line(chip))

    def test_115_a_group_that_is_cut_or_fails_at_each_of_its_pages(self):
        source = dice(1150)
        for _ in range(25):
            chip, index, behind, records = self.some_group_for(source)
            for wrong in range(len(records)):
                for mask in masks(source)[:6]:
                    self.check_cut(twin(chip), source, behind, records, wrong, mask)

    def check_cut(self, chip, source, behind, records, wrong, mask):
        index = Index(chip)
        keys = {record.key() for record in counting_records(chip)}
        places, tree = {key: index.place_of(key) for key in keys}, index.tree()
        number, page, next_id = index.next_number, index.next_page, index.next_id
        for at, record in enumerate(records[:wrong + 1]):
            if at == wrong:
                (chip.cut if source.random() < 0.5 else chip.fail)(chip.ops, mask)
            try_op(chip.write, index.head, page + at, sealed(written(record)))
        chip.clear_plans()
        whole = [is_whole(chip.read(index.head, page + at)) for at in range(len(records))]
        dirty = [page + at for at in range(len(records)) if not is_clean(chip.read(index.head, page + at))]
        index.read_again()
        if all(whole):
            self.assertEqual((index.tree(), index.next_number), (behind, number + 1))
        else:
            self.assertEqual({key: index.place_of(key) for key in keys}, places)
            self.assertEqual((index.tree(), index.next_number), (tree, number + 1 if any(whole) else number))
            self.assertGreaterEqual(index.next_id, next_id)
        self.assertEqual(index.next_page, max(dirty) + 1 if dirty else page)
        self.assertTrue(is_in_line(chip))

    def test_116_a_plain_block(self):
        source = dice(116)
        for _ in range(30):
            chip, tree = used_chip(source, steps=source.randrange(12))
            index, blocks = Index(chip), clean_blocks(chip)
            before = all_of(index)
            seq, tail = index.seq + source.randrange(1, 4), source.randrange(1, index.tail + 1)
            put(chip, blocks[0], 0, Head(seq, tail, False))
            index.read_again()
            self.assertEqual((index.blocks, index.head, index.seq, index.next_page),
                             (before[0] + (blocks[0],), blocks[0], seq, 1))
            self.assertEqual((index.tail, index.next_number, index.next_id), (before[1][2], before[1][4], before[1][5]))
            self.assertEqual(all_of(index)[2:], before[2:])
            self.assertTrue(is_in_line(chip))

    def test_116_and_117_a_cleaning_block(self):
        source, count = dice(1160), 0
        while count < 50:
            chip, tree = used_chip(source, steps=source.randrange(1, 30))
            sizes, blocks = lot_sizes(chip), clean_blocks(chip)
            if not sizes or not blocks:
                continue
            count += 1
            self.assertTrue(is_in_line(chip) and is_regular(chip))
            size, block, index = source.choice(sizes), blocks[0], Index(chip)
            before = all_of(index)
            eldest = [record for there in index.blocks[:size] for record in index.moved_in(there)]
            records = cleaning_records(chip, size)
            self.assertEqual(eldest, records[1:-1])
            for page, record in enumerate(records):
                index.read_again()
                self.assertEqual(all_of(index)[:2] + all_of(index)[3:], before[:2] + before[3:])
                put(chip, block, page, record)
            index.read_again()
            self.assertEqual((index.blocks, index.head, index.seq),
                             (before[0][size:] + (block,), block, records[0].seq))
            self.assertEqual((index.tail, index.next_page), (records[-1].tail, len(records)))
            self.assertEqual((index.next_number, index.next_id), (last_number(chip) + 1, meaning(chip).next_id))
            self.assertEqual(index.tree(), tree)
            self.assertTrue(is_in_line(chip))
            self.assertEqual(index.moved_in(block), eldest)
            for there in before[0]:
                gone = there in before[0][:size]
                self.assertEqual(index.living_in(there), [] if gone else before[3][there][0])

    def test_116_numbers_may_become_less(self):
        chip = chip_with({3: [HEAD, NODE, NAME, Node(9, 1, 2, 60, 1, 0, 0)]})
        index = Index(chip)
        self.assertEqual((index.next_number, index.next_id), (10, 61))
        put(chip, 5, 0, *cleaning_records(chip, 1))
        index.read_again()
        self.assertEqual((index.blocks, index.next_number, index.next_id, index.next_page), ((5,), 8, 6, 4))

    def test_any_sound_chip(self):
        source, ready = dice(1140), 0
        for _ in range(150):
            chip = some_sound_chip(source)
            try:
                tree = meaning(chip)
            except (InvalidChip, NotReady) as error:
                with self.assertRaises(type(error)):
                    Index(chip)
                continue
            ready += 1
            index, places = Index(chip), places_on(chip)
            records = [record for _, _, record in places]
            self.assertEqual((index.tree(), index.next_id, index.tail), (tree, tree.next_id, tail_of(chip)))
            for record in records:
                chosen = plain_selected(records, record.key(), NOW)
                self.assertEqual(index.place_of(record.key()), None if chosen is None else places[chosen])
            for block in range(8):
                self.assertEqual(index.living_in(block),
                                 [places[k][2] for k in plain_needed(records) if places[k][0] == block])
        self.assertGreater(ready, 20)
