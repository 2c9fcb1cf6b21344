"""Points 151 to 155: scripts, what they are to do, and what is left of them when power is cut."""

from onewaybits import power as module
from onewaybits.blocks import counting
from onewaybits.chip import Chip, image
from onewaybits.errors import InvalidChip, InvalidPlans, InvalidScript, InvalidTree, NotReady
from onewaybits.examiner import findings
from onewaybits.groups import living
from onewaybits.meaning import meaning
from onewaybits.power import beginnings, meant, run, run_on
from onewaybits.records import Head, Node
from onewaybits.store import Store
from onewaybits.tree import Tree
from tests.chips import chip_with, twin
from tests.helper import HIGHEST_MASK, NO_INTS, PointTest, dice, some_mask
from tests.model import some_deed
from tests.test_cleaner import ring
from tests.values import ANY_VALUES
from tests.workshop import (
    SHAPES, bound_of, chip_that_cleans, ops_of, ready_chip, some_masks, some_useful_deed, worked_chip,
)

SESSION = """
>>> from onewaybits.chip import Chip
>>> from onewaybits.power import beginnings, meant, run, run_on
>>> from onewaybits.store import make_chip_ready
>>> chip = Chip(8, 8, 0)
>>> make_chip_ready(chip)
>>> script = [("file", ("a",)), ("sync",), ("write", ("a",), 0, (1, 2)), ("drop", ("b",))]
>>> trees = beginnings(chip, script)
>>> [len(trees), trees[3].picture()]
[4, ((('a',), 'file', (1, 2), ('a',), (0,)),)]
>>> [run(chip, script), meant(chip, trees)]
[('done', [None, None, 'none']), [1]]
>>> run_on(chip, [("write", ("a",), 0, (7,)), ("sync",), ("file", ("b",))], [(0, 0), (1, 2 ** 248 - 1)])
[0, 1]
>>> chip.cut(chip.ops + 1, 0)
>>> run(chip, [("drop", ("a",)), ("sync",), ("cut", ("b",), 3)])
('cut', 1, 0)
"""
NO_CHIPS = [value for value in ANY_VALUES if not isinstance(value, Chip)]
NO_SCRIPTS = [value for value in ANY_VALUES if value not in ([], ())] + [
    [("sync",)] * 61, [("sync", 1)], [["sync"]], [("file", ("a",)), None], {"a": ("sync",)}, [("file", ["a"])],
    ("sync",),
]
NO_TREES = [value for value in ANY_VALUES if value not in ([], (), [Tree()], (Tree(),))] + [[Tree(), None], [[Tree()]]]
NO_PLANS = [value for value in ANY_VALUES if value not in ([], ())] + [
    [[0, 0]], [(0,)], [(0, 0, 0)], [(-1, 0)], [(0, -1)], [(0, HIGHEST_MASK + 1)], [(0, 0), (0, None)], [(None, 0)],
    (0, 0), [(0, 0), [1, 1]], {"a": (0, 0)},
] + [[(value, 0)] for value in NO_INTS] + [[(0, value)] for value in NO_INTS]
SYNC, FILE_A, FILE_B = ("sync",), ("file", ("a",)), ("file", ("b",))


def unready_chips():
    return [Chip(8, 8, 0), chip_with({3: [Head(4, 4, True), Node(1, 0, 1, 2, 1, 0, 0)]})]


def wrong_chip():
    return chip_with({3: [Head(1, 1, False), Node(1, 0, 1, 2, 1, 0, 0)]})


def deeds_of(script):
    return [step for step in script if step != SYNC]


def some_script(source, chip, most=60):
    """Return a script of up to so many steps, the deeds of which are mostly done on a chip."""
    tree, script = meaning(chip), []
    for _ in range(source.randrange(most + 1)):
        if source.random() < 0.2:
            script.append(SYNC)
        else:
            deed = some_useful_deed(source, tree, bound_of(chip), 0.2) if source.random() < 0.8 else some_deed(source)
            behind = tree.copy()
            if behind.do(deed) is None and living(behind) <= bound_of(chip):
                tree = behind
            script.append(deed)
    return script


def plain_beginnings(chip, script):
    """Return what point 152 tells, and the word by which each deed is refused."""
    trees, words = [meaning(chip)], []
    for deed in deeds_of(script):
        behind = trees[-1].copy()
        word = behind.do(deed)
        if word is None and living(behind) > bound_of(chip):
            word = "full"
        trees.append(trees[-1].copy() if word else behind)
        words.append(word)
    return trees, words


class PowerTest(PointTest):

    def test_examples(self):
        self.assert_session(SESSION)

    def test_each_name_is_defined_in_its_file(self):
        for name in ("beginnings", "run", "meant", "run_on"):
            self.assertEqual(getattr(module, name).__module__, module.__name__)

    def test_values_that_are_no_chip(self):
        for wrong in NO_CHIPS:
            for script in ([], None):
                self.assert_invalid(InvalidChip, wrong, beginnings, wrong, script)
                self.assert_invalid(InvalidChip, wrong, run, wrong, script)
                self.assert_invalid(InvalidChip, wrong, meant, wrong, script)
                self.assert_invalid(InvalidChip, wrong, run_on, wrong, script, None)

    def test_values_that_are_no_script(self):
        for chip in (ready_chip(), Chip(8, 8, 0), wrong_chip()):
            before = image(chip)
            for wrong in NO_SCRIPTS:
                self.assert_invalid(InvalidScript, wrong, beginnings, chip, wrong)
                self.assert_invalid(InvalidScript, wrong, run, chip, wrong)
                self.assert_invalid(InvalidScript, wrong, run_on, chip, wrong, None)
            self.assertEqual(image(chip), before)

    def test_chips_without_a_meaning(self):
        for chip in unready_chips():
            for call, args in ((beginnings, ([],)), (run, ([],)), (meant, ([],)), (run_on, ([], [(0, 0)]))):
                with self.assertRaises(NotReady):
                    call(chip, *args)
            self.assertTrue(chip.write(0, 0, [255] * 31))
        chip = wrong_chip()
        for call, args in ((beginnings, ([],)), (run, ([],)), (meant, ([],)), (run_on, ([], [(0, 0)]))):
            self.assert_invalid(InvalidChip, chip, call, chip, *args)
        self.assertTrue(chip.write(0, 0, [255] * 31))

    def test_152_the_trees_of_a_script(self):
        source, words = dice(152), []
        for shape in SHAPES * 2:
            chip = worked_chip(source, shape)
            script = some_script(source, chip)
            trees, told = plain_beginnings(chip, script)
            words += told
            chip.cut(chip.ops, 0)
            chip.fail(chip.ops + 1, 0)
            before = image(chip)
            found = beginnings(chip=chip, script=tuple(script) if source.random() < 0.5 else script)
            self.assertEqual([tree.whole() for tree in found], [tree.whole() for tree in trees])
            self.assertEqual((image(chip), type(found)), (before, list))
        self.assertEqual({None, "full", "path", "none"} - set(words), set())

    def test_152_scripts_without_deeds_and_of_60_steps(self):
        chip = ready_chip()
        for script in ([], [SYNC], [SYNC] * 60):
            self.assertEqual(beginnings(chip, script), [Tree()])
        trees = beginnings(chip, [FILE_A] * 60)
        self.assertEqual((len(trees), trees[0], len(set(tree.whole() for tree in trees[1:]))), (61, Tree(), 1))
        with self.assertRaises(InvalidScript):
            beginnings(chip, [FILE_A] * 61)

    def test_152_the_trees_are_new_each_for_itself(self):
        chip = ready_chip()
        script = [FILE_A, FILE_A, ("drop", ("q",))]
        trees = beginnings(chip, script)
        trees[1].do(FILE_B)
        trees[2].do(("drop", ("a",)))
        self.assertEqual([tree.listing(()) for tree in trees], [[], ["a", "b"], [], ["a"]])
        self.assertEqual([tree.listing(()) for tree in beginnings(chip, script)], [[], ["a"], ["a"], ["a"]])

    def test_152_open_stores_and_bad_blocks_mean_nothing(self):
        chip = worked_chip(dice(1520), (10, 8, 3), 30, 0.0, 0.3)
        before = [tree.whole() for tree in beginnings(chip, [FILE_B, ("keep", "x")])]
        store = Store(chip)
        store.do(("dir", ("zz",)))
        self.assertEqual([tree.whole() for tree in beginnings(chip, [FILE_B, ("keep", "x")])], before)

    def test_152_full_as_a_store_tells_it(self):
        chip = ready_chip(8, 8, 1)
        script = [("dir", (name,)) for name in "abcdefghijkl"]
        trees = beginnings(chip, script)
        self.assertEqual([living(tree) for tree in trees], [2 * k for k in range(11)] + [20, 20])

    def test_152_a_tree_above_the_bound(self):
        chip = ring((6, 6, 6, 6), bad=1)
        trees = beginnings(chip, [("drop", ("none",)), ("drop", ("a",)), ("move", ("a",), ("z",))])
        self.assertEqual([tree == meaning(chip) for tree in trees], [True] * 4)
        self.assertEqual(run(chip, [("drop", ("none",)), ("drop", ("a",))]), ("done", ["none", "full"]))

    def test_152_a_deed_that_ends_in_the_word_of_a_sync(self):
        chip = ready_chip()
        script = [("keep", "sync"), FILE_A, ("let", "sync"), ("dir", ("sync",))]
        self.assertEqual([len(tree.kept_names()) for tree in beginnings(chip, script)], [0, 1, 1, 0, 0])
        self.assertEqual(run_on(chip, script, [(0, 0), (3, 0)]), [0, 2])
        self.assertEqual(run(chip, script), ("done", [None, "exists", None, "exists"]))

    def test_153_a_run_that_is_done(self):
        source = dice(153)
        for shape in SHAPES * 2:
            chip = worked_chip(source, shape)
            script = some_script(source, chip)
            other = twin(chip)
            trees, words = plain_beginnings(chip, script)
            told = run(chip=chip, script=script)
            self.assertEqual(told, ("done", words))
            self.assertEqual([type(told), type(told[1])], [tuple, list])
            store = Store(other)
            for step in script:
                (store.sync if step == SYNC else store.do)(*([] if step == SYNC else [step]))
            self.assertEqual((chip.log, image(chip)), (other.log, image(other)))
            self.assertIn(meaning(chip), trees)

    def test_153_scripts_of_0_60_and_61_steps(self):
        chip = ready_chip()
        self.assertEqual((run(chip, []), run(chip, ()), run(chip, [SYNC] * 60)), (("done", []),) * 3)
        self.assertEqual(run(chip, [FILE_A] * 60), ("done", [None] + ["exists"] * 59))
        wrong = [FILE_A] * 61
        self.assert_invalid(InvalidScript, wrong, run, chip, wrong)

    def test_153_what_is_pending_is_given_up(self):
        chip = ready_chip()
        self.assertEqual(run(chip, [FILE_A, SYNC, FILE_B]), ("done", [None, None]))
        self.assertEqual(meaning(chip).listing(()), ["a"])

    def test_153_a_cut_in_a_sync(self):
        chip = ready_chip()
        script = [FILE_A, FILE_A, SYNC, FILE_B, SYNC, ("drop", ("q",)), SYNC, ("dir", ("c",)), SYNC]
        for k, told in ((0, ("cut", 2, 0)), (1, ("cut", 2, 0)), (2, ("cut", 3, 2)), (3, ("cut", 3, 2)),
                        (4, ("cut", 5, 4)), (5, ("cut", 5, 4))):
            other = twin(chip)
            other.cut(other.ops + k, 0)
            self.assertEqual(run(other, script), told)
            self.assertEqual(other.cuts, 1)
        chip.cut(chip.ops + 6, 0)
        self.assertEqual(run(chip, script)[0], "done")

    def test_153_a_cut_in_a_ninth_deed(self):
        chip = ready_chip()
        script = [SYNC, ("drop", ("q",))] + [("dir", (name,)) for name in "abcdefghi"]
        chip.cut(chip.ops + 3, 0)
        self.assertEqual(run(chip, script), ("cut", 9, 0))
        self.assertEqual(meaning(chip).listing(()), ["a"])
        chip.cut(chip.ops, 0)
        script = script[:2] + [SYNC] + script[2:] + [("dir", ("j",))]
        self.assertEqual(run(chip, script), ("cut", 10, 1))

    def test_153_plans_that_were_not_met_stay(self):
        chip = ready_chip()
        chip.cut(chip.ops + 4, 0)
        self.assertEqual(run(chip, [FILE_A, SYNC]), ("done", [None]))
        self.assertEqual(run(chip, [FILE_B, SYNC, FILE_A, ("drop", ("b",)), SYNC]), ("cut", 3, 1))

    def test_154_indices(self):
        chip = ready_chip()
        run(chip, [FILE_A, SYNC])
        tree = meaning(chip)
        kept = tree.copy()
        kept.do(("keep", "k"))
        trees = [tree, Tree(), tree.copy(), kept, tree]
        self.assertEqual((meant(chip=chip, trees=trees), meant(chip, tuple(trees))), ([0, 2, 4], [0, 2, 4]))
        self.assertEqual((meant(chip, []), meant(chip, [Tree()]), type(meant(chip, trees))), ([], [], list))
        self.assertEqual([one.whole() for one in trees], [one.whole() for one in [tree, Tree(), tree, kept, tree]])

    def test_154_values_that_are_no_list_of_trees(self):
        for chip in (ready_chip(), Chip(8, 8, 0), wrong_chip()):
            for wrong in NO_TREES:
                self.assert_invalid(InvalidTree, wrong, meant, chip, wrong)

    def assert_told(self, chip, script, trees, words, told):
        """Check what point 154 tells behind a run."""
        found = meant(chip, trees)
        if told[0] == "cut":
            _, done, synced = told
        else:
            done = len(deeds_of(script))
            ends = [at for at, step in enumerate(script) if step == SYNC]
            synced = len(deeds_of(script[:ends[-1]])) if ends else 0
        right = [k for k in found if synced <= k <= done]
        if told[0] == "cut":
            right = [k for k in right if words[k:done].count(None) <= 8]
        self.assertGreater(len(right), 0)

    def test_154_behind_runs_with_cuts_and_failures(self):
        source, cuts = dice(154), 0
        for shape in SHAPES * 8:
            chip = worked_chip(source, shape, 25)
            script = some_script(source, chip)
            trees, words = plain_beginnings(chip, script)
            for _ in range(source.randrange(4)):
                chip.fail(chip.ops + source.randrange(60), some_mask(source))
            if source.random() < 0.9:
                chip.cut(chip.ops + source.randrange(60), some_mask(source))
            told = run(chip, script)
            cuts += told[0] == "cut"
            self.assert_told(chip, script, trees, words, told)
            self.assertEqual(findings(chip), [])
        self.assertGreater(cuts, 20)

    def test_154_cuts_at_each_op(self):
        source = dice(1540)
        for chip in (ready_chip(8, 8, 1), chip_that_cleans(source, (8, 8, 1))):
            script = []
            while len(deeds_of(script)) < 10:
                script = some_script(source, chip, 20)
            trees, words = plain_beginnings(chip, script)
            for k in range(ops_of(chip, lambda one: run(one, script))):
                for mask in some_masks(source):
                    other = twin(chip)
                    other.cut(other.ops + k, mask)
                    told = run(other, script)
                    self.assertEqual((told[0], other.cuts), ("cut", chip.cuts + 1))
                    self.assert_told(other, script, trees, words, told)

    def test_155_without_plans(self):
        chip = ready_chip()
        chip.fail(chip.ops + 40, 0)
        self.assertEqual(run_on(chip=chip, script=[FILE_A], plans=[]), [])
        self.assertEqual((meaning(chip).listing(()), chip.cuts), (["a"], 0))
        self.assertEqual(run_on(chip, [FILE_B], ()), [])

    def test_155_a_script_of_60_steps_has_one_more_sync(self):
        chip = ready_chip()
        script = [("dir", (name,)) for name in "abc"] + [("drop", ("q",))] * 57
        self.assertEqual(run_on(chip, script, [(3, 0)]), [1])
        self.assertEqual(meaning(chip).listing(()), ["a", "b", "c"])
        wrong = script + [SYNC]
        self.assert_invalid(InvalidScript, wrong, run_on, chip, wrong, [])

    def test_155_all_plans_are_removed(self):
        chip = ready_chip(8, 8, 1)
        chip.cut(chip.ops + 30, 0)
        chip.fail(chip.ops + 31, 0)
        self.assertEqual(run_on(chip, [FILE_A], [(0, 0), (90, 5)]), [0])
        for _ in range(100):
            self.assertTrue(chip.write(7, 7, [255] * 31))

    def test_155_which_op_is_cut(self):
        chip = ready_chip()
        for k in range(3):
            before = chip.ops
            self.assertEqual(run_on(chip, [("dir", ("abc"[k],))], [(k, 0)]), [0])
            self.assertEqual((chip.ops - before, chip.cuts), (k + 3, k + 1))
        self.assertEqual(run_on(chip, [("dir", ("d",))], [(2, 0)]), [])
        self.assertEqual(chip.cuts, 3)

    def test_155_the_next_plan_ahead_of_each_run(self):
        chip = ready_chip()
        self.assertEqual(run_on(chip, [FILE_A, FILE_B], [(0, 0), (0, 0), (1, 0), (2, 0), (1, HIGHEST_MASK)]),
                         [0, 0, 0, 1, 2])
        self.assertEqual((chip.cuts, meaning(chip).listing(())), (5, ["a", "b"]))

    def test_155_a_plan_of_before_cuts_a_run_too(self):
        chip = ready_chip()
        chip.cut(chip.ops + 1, HIGHEST_MASK)
        chip.cut(chip.ops + 3, 0)
        self.assertEqual(run_on(chip, [FILE_A, SYNC, FILE_B, SYNC], [(2, 0), (9, 0)]), [1, 1, 1])
        self.assertEqual((chip.cuts, meaning(chip).listing(())), (3, ["a", "b"]))

    def test_155_the_greatest_index_that_is_not_above_what_was_answered(self):
        chip = ready_chip()
        turn = [("dir", ("b",)), ("drop", ("b",))]
        script = [FILE_A] + turn * 3 + [SYNC] + turn
        self.assertEqual(run_on(twin(chip), script, [(2, 0)]), [7])
        for k in (4, 5):
            self.assertEqual(run_on(twin(chip), script, [(k, 0)]), [6])
        self.assertEqual(run_on(twin(chip), script, [(5, HIGHEST_MASK)]), [7])
        self.assertEqual(run_on(twin(chip), script, [(0, 0)]), [0])
        script = [SYNC, ("drop", ("q",)), SYNC, FILE_A, SYNC]
        self.assertEqual(run_on(twin(chip), script, [(0, 0), (0, 0)]), [1, 1])

    def test_155_used_chips(self):
        source, cuts = dice(155), 0
        for shape in SHAPES * 3 + [(24, 16, 2)]:
            chip = worked_chip(source, shape, 25)
            script = some_script(source, chip)
            trees, words = plain_beginnings(chip, script)
            for _ in range(source.randrange(3)):
                chip.fail(chip.ops + source.randrange(60), some_mask(source))
                chip.cut(chip.ops + source.randrange(60), some_mask(source))
            before = chip.cuts
            plans = [(source.randrange(source.choice([1, 6, 60])), some_mask(source)) for _ in range(8)]
            plans = plans[source.randrange(9):]
            plans_before = list(plans)
            places = run_on(chip, script, plans)
            cuts += len(places)
            self.assertEqual((plans, len(places)), (plans_before, chip.cuts - before))
            self.assertEqual((type(places), places), (list, sorted(places)))
            self.assertEqual((meaning(chip).whole(), findings(chip)), (trees[-1].whole(), []))
            self.assertTrue(all(0 <= k <= len(words) for k in places))
        self.assertGreater(cuts, 40)

    def test_155_told_run_by_run(self):
        source = dice(1550)
        for shape in SHAPES * 2:
            chip = worked_chip(source, shape, 10)
            script = some_script(source, chip, 40)
            plans = [(source.randrange(20), source.choice(some_masks(source))) for _ in range(6)]
            other = twin(chip)
            self.assertEqual(run_on(chip, script, plans), self.plain_run_on(other, script, plans))
            self.assertEqual((chip.log, image(chip)), (other.log, image(other)))

    def plain_run_on(self, chip, script, plans):
        trees, places, answered = beginnings(chip, script), [], 0
        while True:
            if plans:
                chip.cut(chip.ops + plans[0][0], plans[0][1])
                plans = plans[1:]
            start, left = (places or [0])[-1], list(script) + [SYNC]
            while len(deeds_of(script)) - len(deeds_of(left)) < start:
                left = left[1:]
            if len(left) > 60:
                told = run(chip, left[:60])
                told = run(chip, left[60:]) if told[0] == "done" and left[59] == SYNC else told
            else:
                told = run(chip, left)
            if told[0] == "done":
                return places
            answered = start + told[1]
            places.append(max(k for k in range(answered + 1) if trees[k] == meaning(chip)))

    def test_155_blocks_that_turn_bad_meanwhile(self):
        source = dice(1551)
        for shape in [(10, 8, 3), (24, 16, 17)]:
            chip = ready_chip(*shape)
            script = [(word, (name,)) for word in ("file", "drop") for name in "abcdef"] + [SYNC, FILE_A]
            for k in range(chip.bad):
                chip.fail(chip.ops + 3 * k, source.choice(some_masks(source)))
            run_on(chip, script, [(4, 0), (9, HIGHEST_MASK), (0, 3), (30, 0)])
            self.assertEqual((meaning(chip).listing(()), findings(chip)), (["a"], []))
            self.assertLessEqual(len(counting(chip)), chip.blocks - chip.bad - 1)

    def test_155_values_that_are_no_plans(self):
        for chip in (ready_chip(), Chip(8, 8, 0), wrong_chip()):
            for wrong in NO_PLANS:
                self.assert_invalid(InvalidPlans, wrong, run_on, chip, [FILE_A], wrong)
            self.assertEqual(chip.cuts, 0)
