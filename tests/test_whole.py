"""Points 1 and 2: whole runs of stores, near the bound and with cuts and failures again and again."""

from copy import deepcopy

from onewaybits.blocks import counting
from onewaybits.chip import image
from onewaybits.errors import PowerCut
from onewaybits.examiner import findings
from onewaybits.meaning import meaning
from onewaybits.room import spread
from onewaybits.store import Store, make_chip_ready
from onewaybits.writer import Writer
from tests.helper import PointTest, dice, some_mask
from tests.model import PlainTree, some_deed
from tests.workshop import WatchedChip, bound_of, some_useful_deed


def whole_of(plain):
    """Return the whole of a plain tree, as a Tree tells it."""
    kept = tuple((name, plain.kept[name].picture()) for name in sorted(plain.kept))
    return plain.picture(), kept


class Run:
    """A store that works on a chip, with plain trees of all that the chip may mean."""

    def __init__(self, test, source, shape, cuts, fails):
        self.test, self.source, self.cuts, self.fails = test, source, cuts, fails
        self.chip = WatchedChip(*shape)
        make_chip_ready(self.chip)
        self.store, self.plain, self.full = Store(self.chip), PlainTree(), 0
        self.wholes = [whole_of(self.plain)]
        self.plains = [self.plain]
        self.chip.watch = self.check_moment

    def check_moment(self):
        """Check the chip behind an op, be it done, cut or failed."""
        test, chip = self.test, self.chip
        test.assertIn(meaning(chip).whole(), self.wholes)
        test.assertLessEqual(spread(chip), chip.cuts + 1)
        test.assertLessEqual(len(counting(chip)), chip.blocks - chip.bad - 1)
        test.assertGreater(len(Writer(chip).free()), chip.bad - len(chip.bad_blocks()))

    def step(self):
        chip, source = self.chip, self.source
        if source.random() < self.cuts:
            chip.cut(chip.ops + source.randrange(25), some_mask(source))
        if source.random() < self.fails:
            chip.fail(chip.ops + source.randrange(25), some_mask(source))
        try:
            if source.random() < 0.08:
                self.store.sync()
                self.begin(self.plain)
            else:
                self.do_deed()
        except PowerCut:
            self.open_again()
        self.test.assertEqual(findings(chip), [])

    def do_deed(self):
        deed = some_useful_deed(self.source, self.store.tree(), bound_of(self.chip), 0.05)
        if self.source.random() < 0.15:
            deed = some_deed(self.source, self.store.tree())
        word, behind = self.plain.word(deed), deepcopy(self.plain)
        if word is None:
            behind.do(deed)
            if behind.living() > bound_of(self.chip):
                word, behind = "full", self.plain
                self.full += 1
        self.test.assertEqual(self.store.do(deed), word)
        if word is None:
            self.plain = behind
            self.plains.append(behind)
            self.wholes.append(whole_of(behind))
        self.test.assertEqual(self.store.tree().whole(), whole_of(self.plain))

    def open_again(self):
        before = image(self.chip)
        self.store = Store(self.chip)
        self.test.assertEqual(image(self.chip), before)
        whole = self.store.tree().whole()
        self.begin(self.plains[self.wholes.index(whole)])

    def begin(self, plain):
        self.plain = deepcopy(plain)
        # A store that opens a chip may give other ids than a plain tree does, which no picture tells.
        self.plains, self.wholes = [self.plain], [whole_of(self.plain)]
        self.test.assertEqual(self.store.tree().whole(), self.wholes[0])


class WholeTest(PointTest):

    def run_some(self, seed, shapes, cuts, fails, steps):
        source, runs = dice(seed), []
        for shape in shapes:
            runs.append(Run(self, source, shape, cuts, fails))
            for _ in range(steps):
                runs[-1].step()
        return runs

    def test_2_without_cuts_and_failures(self):
        for run in self.run_some(2, [(8, 8, 0), (8, 8, 1), (9, 9, 2), (10, 8, 3)], 0, 0, 110):
            self.assertEqual((run.chip.cuts, run.chip.bad_blocks()), (0, []))
            self.assertGreater(run.full, 0)

    def test_2_cut_again_and_again(self):
        for cuts in (0.02, 0.1, 0.4):
            for run in self.run_some(20, [(8, 8, 0), (9, 8, 2)], cuts, 0, 110):
                self.assertGreater(run.chip.cuts, 0)

    def test_2_all_blocks_turn_bad_that_may(self):
        for run in self.run_some(21, [(8, 8, 1), (10, 8, 3), (12, 8, 5), (10, 10, 2)], 0, 0.1, 110):
            self.assertEqual(len(run.chip.bad_blocks()), run.chip.bad)

    def test_2_cuts_and_failures(self):
        for run in self.run_some(22, [(8, 8, 1), (9, 8, 2), (12, 8, 5), (8, 16, 1), (9, 9, 1)], 0.06, 0.05, 110):
            self.assertGreater(run.chip.cuts, 0)

    def test_2_the_greatest_chips(self):
        for run in self.run_some(23, [(24, 16, 17), (24, 16, 3), (24, 16, 0)], 0.05, 0.05, 60):
            self.assertGreater(run.chip.ops, 20)

    def test_2_a_tree_at_the_bound_is_changed_on_and_on(self):
        for shape in ((8, 8, 0), (8, 8, 1), (9, 9, 2)):
            chip = WatchedChip(*shape)
            make_chip_ready(chip)
            store, names = Store(chip), "abcdefghijklmnopqrstuvwxyz"
            for name in names:
                store.do(("dir", (name,)))
            tree = store.tree()
            last = tree.listing(())[-1]
            for k in range(60):
                self.assertIs(store.do(("move", (last,), ("z" + names[k % 26],))), None)
                last = "z" + names[k % 26]
                self.assertEqual(store.do(("dir", ("q",))), "full")
                self.assertIs(store.do(("drop", ("a",))), None)
                self.assertIs(store.do(("dir", ("a",))), None)
                store.sync()
                self.assertEqual(meaning(chip), store.tree())
            self.assertEqual(findings(chip), [])
            self.assertLessEqual(spread(chip), 1)
