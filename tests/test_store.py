"""Points 141 to 148: chips that are made ready, stores, and what is left of what they do when power is cut."""

from copy import deepcopy

from onewaybits import store as module
from onewaybits.blocks import counting, read_block, tail_of
from onewaybits.chip import Chip, image, read_image
from onewaybits.errors import InvalidChip, InvalidDeed, NoRoom, NotReady, PowerCut
from onewaybits.examiner import findings
from onewaybits.groups import group, living
from onewaybits.index import Index
from onewaybits.meaning import last_number, meaning
from onewaybits.pages import is_torn
from onewaybits.records import Head, Keep, Name, Node, Seal, is_tree_record
from onewaybits.store import Store, make_chip_ready
from onewaybits.tree import Tree
from tests.chips import chip_with, put, some_sound_chip, twin
from tests.helper import HIGHEST_MASK, PointTest, dice, some_mask
from tests.model import PlainTree, some_deed
from tests.plainstore import PlainStore, plain_free, plain_ready
from tests.values import ANY_VALUES
from tests.workshop import (
    SHAPES, WatchedChip, bound_of, chip_that_cleans, each_cut, is_cut, ops_of, ready_chip, some_masks, some_useful_deed,
    worked_chip,
)

SESSION = """
>>> from onewaybits.chip import Chip
>>> from onewaybits.store import Store, make_chip_ready
>>> chip = Chip(8, 8, 1)
>>> make_chip_ready(chip)
>>> store = Store(chip)
>>> [store.do(("file", ("a",))), store.do(("write", ("a",), 15, [7, 8])), store.do(("file", ("a",)))]
[None, None, 'exists']
>>> [store.pending(), chip.ops, Store(chip).tree() == store.tree()]
[[('file', ('a',)), ('write', ('a',), 15, (7, 8))], 2, False]
>>> chip.fail(5, 1)
>>> store.sync()
>>> [chip.ops, chip.bad_blocks(), store.pending(), chip.erases(1), Store(chip).tree() == store.tree()]
[11, [0], [], 1, True]
>>> Store(chip).tree().read(("a",))[14:]
(0, 7, 8)
>>> chip.cut(12, 0)
>>> store.do(("drop", ("a",)))
>>> store.sync()
raises PowerCut(12)
"""
NO_CHIPS = [value for value in ANY_VALUES if not isinstance(value, Chip)]
NO_DEEDS = [value for value in ANY_VALUES] + [
    ("sync",), ("file", ["a"]), ["file", ("a",)], ("write", ("a",), True, [1]), ("write", ("a",), 0, []),
    ("all", (("file", ("a",)),)), ("all", [("file", ("a",))] * 2), ("keep", "A"), ("cut", ("a",), 97), ("file",),
]
FILE_A, FILE_B = ("file", ("a",)), ("file", ("b",))
MAKING = [0, (0, 0, Head(1, 1, False))]


def fresh(blocks=8, pages=8, bad=0):
    """Return a chip that was made ready, with an empty log."""
    chip = ready_chip(blocks, pages, bad)
    chip.log = []
    return chip


def do_all(store, deeds):
    return [store.do(deed) for deed in deeds]


class ReadyTest(PointTest):

    def assert_alike(self, chip):
        other = twin(chip)
        chip.log, other.log = [], []
        self.assertIs(make_chip_ready(chip), None)
        plain_ready(other)
        self.assertEqual((chip.log, image(chip)), (other.log, image(other)))

    def test_141_a_new_chip(self):
        for shape in SHAPES + [(24, 16, 17), (24, 16, 0)]:
            chip = WatchedChip(*shape)
            self.assertIs(make_chip_ready(chip=chip), None)
            self.assertEqual((chip.log, meaning(chip), counting(chip)), (MAKING, Tree(), [0]))
            self.assertEqual(findings(chip), [])

    def test_141_values_that_are_no_chip(self):
        for wrong in NO_CHIPS:
            self.assert_invalid(InvalidChip, wrong, make_chip_ready, wrong)

    def test_141_the_block_behind_the_last_one(self):
        for blocks, block, seq in (
            ({3: [Head(4, 2, False)]}, 4, 5),
            ({7: [Head(4, 2, False)]}, 0, 5),
            ({3: [Head(4, 2, False)], 2: [Head(5, 2, False)]}, 4, 6),
            ({6: [Head(4, 2, False)], 7: [Head(5, 2, False)], 0: [Head(3, 2, False)]}, 1, 6),
            ({5: [Head(4, 2, True)]}, 0, 5),
            ({0: [Head(9, 2, True)], 1: [Head(4, 4, False)]}, 2, 10),
            ({0: [Head(9, 2, True)]}, 0, 10),
            ({2: [Head(9, 9, False)], 3: [Head(4, 4, False)]}, 3, 10),
        ):
            chip = WatchedChip(8, 8, 0)
            for at, records in blocks.items():
                put(chip, at, 0, *records)
            chip.log = []
            make_chip_ready(chip)
            self.assertEqual(chip.log, [block, (block, 0, Head(seq, seq, False))])
            self.assertEqual((counting(chip), meaning(chip), tail_of(chip)), ([block], Tree(), seq))

    def test_141_the_greatest_of_all_seqs_and_tails(self):
        for records, seq in (
            ([Head(4, 2, True), Seal(9, 0)], 10), ([Head(4, 2, True), Seal(3, 0)], 5), ([Head(4, 4, False)], 5),
            ([Head(4, 2, True), Seal(9, 0), Seal(3, 0)], 5), ([None, Head(9, 9, False)], 1),
            ([Head(2 ** 31 - 1, 3, False), Node(2 ** 31, 0, 1, 2, 1, 0, 0)], 2 ** 31), ([None, Seal(7, 0)], 1),
        ):
            chip = chip_with({6: records})
            make_chip_ready(chip)
            block = counting(chip)[-1]
            self.assertEqual(read_block(chip, block).head, Head(seq, seq, False))

    def test_141_the_seq_is_worked_out_ahead_of_the_erase(self):
        chip = chip_with({0: [Head(9, 9, True)]})
        make_chip_ready(chip)
        self.assertEqual(read_block(chip, 0).head, Head(10, 10, False))

    def test_141_bad_blocks_are_left_out(self):
        chip = WatchedChip(9, 8, 2)
        put(chip, 3, 0, Head(4, 2, False))
        for block in (4, 5):
            chip.fail(chip.ops, 0)
            chip.erase(block)
        chip.log = []
        make_chip_ready(chip)
        self.assertEqual(chip.log, [6, (6, 0, Head(5, 5, False))])

    def test_141_what_counted_is_left_on_the_chip(self):
        source = dice(141)
        for shape in SHAPES:
            chip = worked_chip(source, shape)
            before, blocks = image(chip), counting(chip)
            self.assert_alike(chip)
            self.assertEqual((meaning(chip), len(counting(chip)), findings(chip)), (Tree(), 1, []))
            self.assertNotIn(counting(chip)[0], blocks)
            self.assertEqual([chip.erases(block) for block in blocks],
                             [read_image(before).erases(block) for block in blocks])
            self.assert_alike(chip)

    def test_141_sound_chips_of_all_kinds(self):
        source, ready = dice(1410), 0
        for _ in range(60):
            chip = WatchedChip(8, 8, 1)
            for name, value in vars(some_sound_chip(source)).items():
                setattr(chip, name, value)
            if plain_free(chip):
                for other in each_cut(chip, make_chip_ready, source)[::3]:
                    self.assertEqual(counting(other) == counting(chip) or meaning(other) == Tree(), True)
                self.assert_alike(chip)
                self.assertEqual(meaning(chip), Tree())
                ready += 1
        self.assertGreater(ready, 30)

    def test_141_failures(self):
        for mask in (0, 77, HIGHEST_MASK - 1, HIGHEST_MASK):
            for wrongs in ((0,), (1,), (0, 1), (1, 2), (1, 3), (0, 1, 2), (1, 3, 5), (0, 2, 4)):
                chip = WatchedChip(10, 8, 3)
                put(chip, 8, 0, Head(6, 2, False), Node(1, 0, 2, 2, 1, 0, 0), Name(1, 1, 2, 1, "a", 2))
                put(chip, 0, 0, Head(9, 9, True), Node(1, 0, 2, 2, 1, 0, 0))
                for wrong in wrongs:
                    chip.fail(chip.ops + wrong, mask)
                tree, seen = meaning(chip), []
                chip.watch = lambda: seen.append(meaning(chip))
                self.assert_alike(chip)
                self.assertEqual(len(chip.bad_blocks()), len(wrongs))
                changes = [k for k in range(1, len(seen)) if seen[k] != seen[k - 1]]
                self.assertEqual((seen[0], seen[-1], len(changes)), (tree, Tree(), 1))

    def test_141_a_head_that_fails_and_stands(self):
        chip = WatchedChip(8, 8, 1)
        chip.fail(1, HIGHEST_MASK)
        make_chip_ready(chip)
        self.assertEqual(chip.log, MAKING + [1, (1, 0, Head(2, 2, False))])
        self.assertEqual((counting(chip), chip.bad_blocks()), ([1], [0]))

    def test_141_a_head_that_fails_leaves_the_seq_as_it_was(self):
        chip = WatchedChip(8, 8, 1)
        chip.fail(1, 0)
        make_chip_ready(chip)
        self.assertEqual(chip.log, MAKING + [1, (1, 0, Head(1, 1, False))])

    def test_141_no_block(self):
        chip = chip_with({block: [Head(block + 1, 1, False)] for block in range(8)})
        before = image(chip)
        with self.assertRaises(NoRoom):
            make_chip_ready(chip)
        self.assertEqual(image(chip), before)
        chip = chip_with({block: [Head(block + 1, 1, False)] for block in range(7)}, bad=1)
        chip.fail(chip.ops + 1, 1)
        with self.assertRaises(NoRoom):
            make_chip_ready(chip)
        self.assertEqual((chip.ops, chip.bad_blocks()), (9, [7]))

    def test_141_cuts(self):
        source = dice(1411)
        for shape in SHAPES[:3]:
            chip = worked_chip(source, shape, 20, 0.0, 0.0)
            tree = meaning(chip)
            for other in each_cut(chip, make_chip_ready, source):
                self.assertEqual(findings(other), [])
                self.assertIn(meaning(other), (tree, Tree()))
                self.assertEqual(meaning(other) == tree, counting(other) == counting(chip))
                self.assert_alike(other)
                self.assertEqual((meaning(other), findings(other)), (Tree(), []))
        for other in each_cut(WatchedChip(8, 8, 0), make_chip_ready, source):
            self.assert_alike(other)
            self.assertEqual((meaning(other), findings(other)), (Tree(), []))


class StoreTest(PointTest):

    def test_examples(self):
        self.assert_session(SESSION)

    def test_each_name_is_defined_in_its_file(self):
        self.assertEqual((Store.__module__, make_chip_ready.__module__), (module.__name__, module.__name__))
        for name in ("do", "pending", "tree", "sync"):
            self.assertIn(name, vars(Store))

    def test_142_opening(self):
        source = dice(142)
        for shape in SHAPES:
            chip = worked_chip(source, shape)
            before = image(chip)
            store = Store(chip=chip)
            self.assertIs(store.chip, chip)
            self.assertEqual((store.tree(), store.tree().next_id), (meaning(chip), meaning(chip).next_id))
            self.assertEqual((store.pending(), image(chip)), ([], before))

    def test_142_kept_trees(self):
        chip = fresh()
        store = Store(chip)
        do_all(store, [FILE_A, ("keep", "k"), ("drop", ("a",))])
        store.sync()
        self.assertEqual((Store(chip).tree().kept_names(), Store(chip).tree().kept("k").listing(())), (["k"], ["a"]))

    def test_142_wrong_chips(self):
        for wrong in NO_CHIPS:
            self.assert_invalid(InvalidChip, wrong, Store, wrong)
        for chip in (Chip(8, 8, 0), chip_with({3: [Head(4, 4, True), Node(1, 0, 1, 2, 1, 0, 0)]})):
            with self.assertRaises(NotReady):
                Store(chip)
        chip = chip_with({3: [Head(1, 1, False), Node(1, 0, 1, 2, 1, 0, 0)]})
        self.assert_invalid(InvalidChip, chip, Store, chip)

    def test_143_deeds_and_words(self):
        source = dice(143)
        for shape in SHAPES:
            store, plain, full = Store(fresh(*shape)), PlainTree(), 0
            for _ in range(150):
                deed = some_deed(source, store.tree())
                if source.random() < 0.5:
                    deed = some_useful_deed(source, store.tree(), bound_of(store.chip), 0.2)
                word = plain.word(deed)
                if word is None:
                    behind = deepcopy(plain)
                    behind.do(deed)
                    if behind.living() > bound_of(store.chip):
                        word, full = "full", full + 1
                    else:
                        plain = behind
                before, pending = store.tree().whole(), store.pending()
                self.assertEqual(store.do(deed), word)
                if word is not None:
                    self.assertEqual((store.tree().whole(), store.pending()), (before, pending))
                self.assertEqual(store.tree().picture(), plain.picture())
            self.assertGreater(full, 0)

    def test_143_values_that_are_no_deed(self):
        store = Store(fresh())
        store.do(FILE_A)
        before, ops = store.tree().whole(), store.chip.ops
        for wrong in NO_DEEDS:
            self.assert_invalid(InvalidDeed, wrong, store.do, wrong)
        self.assertEqual((store.tree().whole(), store.pending(), store.chip.ops), (before, [FILE_A], ops))

    def test_143_the_bound_and_one_above_it(self):
        for shape in SHAPES + [(8, 8, 1), (24, 16, 17)]:
            chip = fresh(*shape)
            store, bound = Store(chip), bound_of(chip)
            names = [(first + second,) for first in "abcdefgh" for second in "abcdefghijklmnopqrstuvwxyz"]
            self.assertIs(store.do(("file", ("a",))), None)
            for name in names[:(bound - 1) // 2 - 1]:
                self.assertIs(store.do(("dir", name)), None)
            if bound % 2:
                self.assertEqual(do_all(store, [("dir", ("z",)), ("link", ("a",), ("b",))]), ["full", None])
            else:
                self.assertIs(store.do(("dir", ("z",))), None)
            self.assertEqual(living(store.tree()), bound)
            for deed in (("dir", ("y",)), ("link", ("a",), ("c",)), ("write", ("a",), 0, [1]), ("keep", "k")):
                self.assertEqual(store.do(deed), "full")
            self.assertEqual(store.do(("dir", ("a",))), "exists")
            self.assertEqual(do_all(store, [("cut", ("a",), 7), ("move", ("a",), ("x",))]), [None, None])
            self.assertEqual(do_all(store, [("drop", names[0]), ("write", ("x",), 0, [1] * 32), ("dir", names[0])]),
                             [None, None, "full"])

    def test_143_a_refused_or_full_deed_is_no_op_even_as_the_ninth(self):
        chip = fresh(8, 8, 1)
        store = Store(chip)
        for name in "abcdefgh":
            self.assertIs(store.do(("file", (name,))), None)
        self.assertEqual((len(store.pending()), store.do(("file", ("a",)))), (8, "exists"))
        self.assertEqual(store.do(("keep", "k")), "full")
        self.assertEqual(store.do(("write", ("q",), 0, [1])), "none")
        with self.assertRaises(InvalidDeed):
            store.do(("sync",))
        self.assertEqual((len(store.pending()), chip.log), (8, []))

    def test_144_pending_deeds(self):
        chip = fresh()
        store = Store(chip)
        deeds = [FILE_A, ("write", ("a",), 3, [1, 2]),
                 ("all", (("write", ("a",), 4, [5]), ("link", ("a",), ("b",)), ("write", ("b",), 0, (6,))))]
        self.assertEqual((store.pending(), do_all(store, deeds)), ([], [None] * 3))
        pending = store.pending()
        self.assertEqual(pending, [FILE_A, ("write", ("a",), 3, (1, 2)),
                                   ("all", (("write", ("a",), 4, (5,)), ("link", ("a",), ("b",)),
                                            ("write", ("b",), 0, (6,))))])
        self.assertEqual((type(pending), type(pending[1][3]), type(pending[2][1][0][3])), (list, tuple, tuple))
        self.assertEqual((chip.log, meaning(chip), last_number(chip)), ([], Tree(), 0))
        self.assertEqual(store.tree().read(("b",)), (6, 0, 0, 1, 5))
        pending.clear()
        self.assertEqual(len(store.pending()), 3)
        self.assertIs(store.sync(), None)
        self.assertEqual(store.pending(), [])

    def test_144_no_list_is_kept(self):
        chip = fresh()
        store = Store(chip)
        octets = [1, 2, 3]
        do_all(store, [FILE_A, ("write", ("a",), 0, octets), ("all", (FILE_B, ("write", ("b",), 0, octets)))])
        octets[0] = 9
        octets.append(4)
        store.sync()
        self.assertEqual((store.tree().read(("a",)), meaning(chip).read(("b",))), ((1, 2, 3), (1, 2, 3)))

    def test_144_the_ninth(self):
        chip = fresh()
        store = Store(chip)
        deeds = [("file", (name,)) for name in "abcdefghi"]
        for k, deed in enumerate(deeds[:8]):
            self.assertIs(store.do(deed=deed), None)
            self.assertEqual((store.pending(), chip.log), (deeds[:k + 1], []))
        other = twin(chip)
        self.assertIs(store.do(deeds[8]), None)
        self.assertEqual(store.pending(), deeds[8:])
        self.assertEqual(meaning(chip).listing(()), list("abcdefgh"))
        again = Store(other)
        do_all(again, deeds[:8])
        again.sync()
        self.assertEqual((other.log, image(other)), (chip.log, image(chip)))

    def test_144_the_tree_is_a_copy(self):
        store = Store(fresh())
        store.do(FILE_A)
        tree = store.tree()
        tree.do(FILE_B)
        self.assertEqual((store.tree().listing(()), tree.next_id, store.tree().next_id), (["a"], 4, 3))
        store.do(("drop", ("a",)))
        self.assertEqual(tree.listing(()), ["a", "b"])

    def test_145_the_ops_of_a_sync(self):
        chip = fresh()
        store = Store(chip)
        do_all(store, [FILE_A, ("write", ("a",), 10, [7] * 10), ("drop", ("a",))])
        tree, entries, number = Tree(), [], 1
        for deed in store.pending():
            entries.append(group(tree, deed, number))
            tree.do(deed)
            number += 1
        self.assertIs(store.sync(), None)
        self.assertEqual(chip.log, [(0, 1 + k, record) for k, record in enumerate(entries[0] + entries[1])] + [
            1, (1, 0, Head(2, 1, False))] + [(1, 1 + k, record) for k, record in enumerate(entries[2])])
        chip.log = []
        self.assertIs(store.sync(), None)
        self.assertEqual(chip.log, [])

    def test_145_numbers_go_up_by_one_for_each_deed_that_is_done(self):
        source = dice(145)
        for shape in SHAPES:
            chip = worked_chip(source, shape, 20)
            store, number, due = Store(chip), Index(chip).next_number, []
            chip.log = []
            for _ in range(60):
                deed = some_deed(source, store.tree())
                if store.do(deed) is None:
                    due.append(number)
                    number += 1
                if source.random() < 0.2:
                    store.sync()
            store.sync()
            told = [entry[2].deed for entry in chip.log
                    if not isinstance(entry, int) and is_tree_record(entry[2]) and entry[2].of and not entry[2].at]
            self.assertEqual(told, due)

    def test_145_numbers_behind_cleaning(self):
        chip = fresh()
        store, count = Store(chip), 0
        store.do(FILE_A)
        while len([entry for entry in chip.log if not isinstance(entry, int) and isinstance(entry[2], Seal)]) < 9:
            store.do(("cut", ("a",), count % 90))
            store.sync()
            count += 1
        self.assertEqual(Index(chip).next_number, count + 2)
        self.assertEqual(Index(chip).place_of(("node", 2))[2].deed, count + 1)

    def test_145_used_chips_and_failures(self):
        source = dice(1450)
        for shape in SHAPES + [(24, 16, 3)]:
            for fails in (0.0, 0.06):
                chip = worked_chip(source, shape, 30, 0.0, 0.0)
                other = twin(chip)
                store, plain = Store(chip), PlainStore(other)
                for _ in range(40):
                    if source.random() < fails:
                        op, mask = chip.ops + source.randrange(20), some_mask(source)
                        chip.fail(op, mask)
                        other.fail(op, mask)
                    if source.random() < 0.3:
                        store.sync()
                        plain.sync()
                    else:
                        deed = some_useful_deed(source, store.tree(), bound_of(chip), 0.2)
                        self.assertEqual(store.do(deed), plain.do(deed))
                self.assertEqual((chip.log, image(chip)), (other.log, image(other)))
                self.assertEqual(chip.against_the_rules, [])
                self.assertEqual(store.tree(), plain.now)

    def test_145_a_failure_at_each_op(self):
        source = dice(1451)
        mixed = [FILE_A, ("write", ("a",), 0, [1] * 40), ("all", (FILE_B, ("link", ("b",), ("c",)))), ("keep", "k")]
        nine = [("dir", (name,)) for name in "abcdefghi"]
        used = chip_that_cleans(source, (8, 8, 1))
        one_more = [some_useful_deed(source, meaning(used), bound_of(used))]
        for chip, deeds in ((fresh(8, 8, 1), mixed), (fresh(8, 8, 1), nine), (used, one_more)):
            for k in range(ops_of(chip, lambda one: self.work(one, deeds))):
                for mask in some_masks(source):
                    one, other = twin(chip), twin(chip)
                    one.fail(one.ops + k, mask)
                    other.fail(other.ops + k, mask)
                    tree = self.work(one, deeds).tree()
                    plain = PlainStore(other)
                    do_all(plain, deeds)
                    plain.sync()
                    self.assertEqual((one.log, image(one)), (other.log, image(other)))
                    self.assertEqual((meaning(one), findings(one)), (tree, []))

    def work(self, chip, deeds):
        store = Store(chip)
        do_all(store, deeds)
        store.sync()
        return store

    def test_145_the_same_records_once_more_even_if_the_group_counts(self):
        for mask in (0, HIGHEST_MASK):
            chip = fresh(8, 8, 1)
            store = Store(chip)
            do_all(store, [FILE_A, FILE_B])
            chip.fail(chip.ops + 1, mask)
            store.sync()
            first, second = group(Tree(), FILE_A, 1), group(meaning_of([FILE_A]), FILE_B, 2)
            self.assertEqual(chip.log, [(0, 1, first[0]), (0, 2, first[1]), 1, (1, 0, Head(2, 1, False))] + [
                (1, 1 + k, record) for k, record in enumerate(first + second)])
            self.assertEqual([number for block in (0, 1) for number, _ in read_block(chip, block).records],
                             [1, 2, 1, 2, 3, 4] if mask else [1, 2, 3, 4])

    def test_145_failures_one_behind_the_other(self):
        source = dice(1452)
        for shape in [(10, 8, 3), (10, 10, 3), (24, 16, 17)]:
            for mask in (0, 5, HIGHEST_MASK):
                chip = fresh(*shape)
                store = Store(chip)
                do_all(store, [FILE_A, ("write", ("a",), 0, [1] * 48), FILE_B])
                at = chip.ops
                for _ in range(chip.bad):
                    at += source.randrange(6)
                    chip.fail(at, mask)
                    at += 1
                store.sync()
                while len(chip.bad_blocks()) < chip.bad:
                    store.do(("cut", ("a",), source.randrange(97)))
                    store.sync()
                self.assertEqual((meaning(chip), findings(chip)), (store.tree(), []))

    def test_145_how_many_ops_a_group_takes(self):
        source = dice(1453)
        for shape in SHAPES:
            chip = chip_that_cleans(source, shape)
            store, worst = Store(chip), 0
            for _ in range(40):
                if source.random() < 0.1:
                    chip.fail(chip.ops + source.randrange(20), some_mask(source))
                store.do(some_useful_deed(source, store.tree(), bound_of(chip)))
                before = chip.ops
                store.sync()
                worst = max(worst, chip.ops - before)
            self.assertLessEqual(worst, (1 + chip.bad) * (chip.blocks + 1) * (chip.pages + 1))

    def test_146_what_the_chip_means_behind_each_call(self):
        source = dice(146)
        for shape in SHAPES:
            chip = worked_chip(source, shape, 20)
            store = Store(chip)
            for _ in range(50):
                if source.random() < 0.05:
                    chip.fail(chip.ops + source.randrange(20), some_mask(source))
                if source.random() < 0.15:
                    store.sync()
                    self.assertEqual(meaning(chip), store.tree())
                else:
                    store.do(some_useful_deed(source, store.tree(), bound_of(chip), 0.1))
                tree = meaning(chip)
                self.assertEqual([tree.do(deed) for deed in store.pending()], [None] * len(store.pending()))
                self.assertEqual((tree, store.chip), (store.tree(), chip))

    def test_146_one_op_for_each_group(self):
        source = dice(1460)
        for shape in SHAPES:
            chip = chip_that_cleans(source, shape)
            for _ in range(3):
                store, trees, seen = Store(chip), [meaning(chip)], []
                for _ in range(source.randrange(1, 9)):
                    deed = some_useful_deed(source, store.tree(), bound_of(chip))
                    if store.do(deed) is None:
                        trees.append(store.tree())
                if source.random() < 0.5:
                    chip.fail(chip.ops + source.randrange(20), some_mask(source))
                chip.watch = lambda: seen.append(meaning(chip))
                store.sync()
                chip.watch = None
                self.assert_in_order(trees, seen)

    def assert_in_order(self, trees, seen):
        """Check that what was seen goes from the first one of some trees to the last one, none passed over."""
        at = 0
        for tree in seen:
            if at + 1 < len(trees) and tree != trees[at]:
                at += 1
            while tree == trees[at] and at + 1 < len(trees) and trees[at] == trees[at + 1]:
                at += 1
            self.assertEqual(tree, trees[at])
        self.assertEqual(seen[-1], trees[-1])

    def test_146_cuts_at_each_op_of_a_sync_and_a_ninth_deed(self):
        source = dice(1461)
        for chip in (fresh(8, 8, 1), chip_that_cleans(source, (8, 8, 1)), chip_that_cleans(source, (9, 8, 2))):
            for is_ninth in (False, True):
                deeds, tree = [], meaning(chip)
                while len(deeds) < 8:
                    deed = some_useful_deed(source, tree, bound_of(chip))
                    if tree.do(deed) is None and living(tree) <= bound_of(chip):
                        deeds.append(deed)
                    else:
                        tree = self.tree_behind(chip, deeds)
                ninth = ("dir", ("ninth",)) if living(tree) + 2 <= bound_of(chip) else ("keep", "x")
                call = self.ninth(deeds, ninth) if is_ninth else lambda one: self.work(one, deeds)
                trees = [self.tree_behind(chip, deeds[:k]) for k in range(9)]
                if not is_ninth or ops_of(chip, call):
                    self.check_cuts(chip, call, trees, source)

    def tree_behind(self, chip, deeds):
        tree = meaning(chip)
        for deed in deeds:
            tree.do(deed)
        return tree

    def ninth(self, deeds, deed):
        def call(chip):
            store = Store(chip)
            do_all(store, deeds)
            store.do(deed)
        return call

    def check_cuts(self, chip, call, trees, source):
        last = 0
        for other in each_cut(chip, call, source)[::2]:
            tree = meaning(other)
            found = [k for k, one in enumerate(trees) if one == tree]
            self.assertGreater(len(found), 0)
            self.assertGreaterEqual(max(found), last)
            last = min(k for k in found if k >= last)
            self.assertEqual(findings(other), [])
            store = Store(other)
            self.assertEqual((store.tree(), store.pending()), (tree, []))
            for deed in (("dir", ("more",)), ("keep", "more"), ("drop", ("more",)), ("let", "more")):
                store.do(deed)
            store.sync()
            self.assertEqual((meaning(other), findings(other)), (store.tree(), []))
        self.assertGreater(last, 6)

    def test_146_what_was_synced_stays(self):
        source = dice(1462)
        for shape in SHAPES:
            chip = fresh(*shape)
            store, synced, since = Store(chip), Tree(), []
            for _ in range(120):
                if source.random() < 0.1:
                    plan = chip.cut if source.random() < 0.7 else chip.fail
                    plan(chip.ops + source.randrange(20), some_mask(source))
                deed = None if source.random() < 0.15 else some_useful_deed(source, store.tree(), bound_of(chip))
                if deed is None and not is_cut(store.sync):
                    synced, since = store.tree(), []
                elif deed is not None and not is_cut(store.do, deed):
                    since.append(store.tree())
                elif chip.ops:
                    tree = meaning(chip)
                    if tree != store.tree() or store.pending():
                        self.assertIn(tree, [synced] + since)
                        store, synced, since = Store(chip), tree, []
                    else:
                        store = Store(chip)
            self.assertEqual(findings(chip), [])

    def test_147_how_many_blocks_count(self):
        source = dice(147)
        for shape in SHAPES:
            chip = fresh(*shape)
            store, most = Store(chip), []
            chip.watch = lambda: most.append((len(counting(chip)), len(plain_free(chip)) + len(chip.bad_blocks())))
            for _ in range(120):
                if source.random() < 0.1:
                    plan = chip.cut if source.random() < 0.6 else chip.fail
                    plan(chip.ops + source.randrange(20), some_mask(source))
                if is_cut(store.do, some_useful_deed(source, store.tree(), bound_of(chip), 0.1)):
                    store = Store(chip)
                may_turn = chip.bad - len(chip.bad_blocks())
                self.assertGreater(len(plain_free(chip)), may_turn)
            self.assertLessEqual(max(count for count, _ in most), chip.blocks - chip.bad - 1)
            self.assertEqual(max(count for count, _ in most), chip.blocks - chip.bad - 1)

    def test_147_full_for_the_living_records_alone(self):
        source = dice(1470)
        for shape in [(8, 8, 1), (9, 8, 2)]:
            used, new = worked_chip(source, shape, 80, 0.2, 0.2), fresh(*shape)
            deeds = [("dir", (name + "z",)) for name in "abcdefghijklmnopqrstuvwx"]
            for chip in (used, new):
                store = Store(chip)
                room = bound_of(chip) - living(store.tree())
                answers = do_all(store, deeds)
                self.assertEqual(answers, [None] * (room // 2) + ["full"] * (24 - room // 2))

    def test_148_equal_chips_and_plans(self):
        source = dice(148)
        for shape in SHAPES:
            chip = worked_chip(source, shape, 20)
            other = read_image(image(chip))
            stores = [Store(chip), Store(other)]
            for _ in range(60):
                if source.random() < 0.2:
                    plan, op, mask = source.choice(["cut", "fail"]), chip.ops + source.randrange(15), some_mask(source)
                    getattr(chip, plan)(op, mask)
                    getattr(other, plan)(op, mask)
                deed = some_useful_deed(source, stores[0].tree(), bound_of(chip), 0.1)
                answers = []
                for store in stores:
                    try:
                        answers.append(store.do(deed))
                    except PowerCut as cut:
                        answers.append(cut.op)
                self.assertEqual(answers[0], answers[1])
                self.assertEqual(image(chip), image(other))
                if isinstance(answers[0], int):
                    stores = [Store(chip), Store(other)]

    def test_chips_with_torn_pages_at_the_end_of_a_head(self):
        chip = fresh()
        Store(chip)
        chip.cut(chip.ops + 1, 3)
        store = Store(chip)
        store.do(FILE_A)
        self.assertTrue(is_cut(store.sync))
        self.assertTrue(is_torn(chip.read(0, 2)))
        store = Store(chip)
        self.assertEqual(store.tree(), Tree())
        store.do(FILE_A)
        store.sync()
        self.assertEqual([page for page, _ in read_block(chip, 0).records], [3, 4])
        self.assertEqual((store.tree().next_id, Index(chip).next_number), (4, 3))

    def test_a_keep_is_written_as_one_record(self):
        chip = fresh()
        store = Store(chip)
        do_all(store, [("keep", "k"), ("let", "k")])
        store.sync()
        self.assertEqual(chip.log, [(0, 1, Keep(1, 0, 1, "k", True)), (0, 2, Keep(2, 0, 1, "k", False))])


def meaning_of(deeds):
    tree = Tree()
    for deed in deeds:
        tree.do(deed)
    return tree
