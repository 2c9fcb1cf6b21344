"""Points 174 to 177: desks."""

from copy import deepcopy

from onewaybits import desk as module
from onewaybits.charts import chart
from onewaybits.chip import Chip, image
from onewaybits.deeds import line_of, read_deed
from onewaybits.desk import Desk, read_desk
from onewaybits.errors import InvalidLine, NothingToUndo, NoThing, PowerCut, TooMany
from onewaybits.examiner import findings
from onewaybits.meaning import meaning
from onewaybits.store import Store, make_chip_ready
from onewaybits.tree import Tree
from tests.helper import HIGHEST_MASK, PointTest, dice, some_mask
from tests.model import some_deed
from tests.values import ANY_VALUES, NO_NAMES
from tests.workshop import bound_of, some_useful_deed

SESSION = """
>>> from onewaybits.desk import Desk
>>> desk = Desk()
>>> [desk.do("chip a 8 8 0"), desk.do("a: file /x"), desk.do("a: write /x 0 7*3"), desk.do("a: file /x"), desk.do("a: sync")]
[None, None, None, 'exists', None]
>>> [desk.do("a: dir /y"), desk.do("a: power 1 0"), desk.do("a: sync"), desk.deeds("a")]
[None, None, 'cut', [('file', ('x',)), ('write', ('x',), 0, (7, 7, 7))]]
>>> [desk.undo(), desk.undo(), desk.do("a: sync"), desk.deeds("a")[2], desk.tree("a").listing(()), len(desk)]
[None, None, None, ('dir', ('y',)), ['x', 'y'], 7]
>>> desk.do("b: sync")
raises NoThing('b')
"""
NO_LINES = [value for value in ANY_VALUES if value != "a"] + [
    "", " ", "chip", "chip ", "chip a", "chip a 8 8", "chip a 8 8 0 ", "chip a 8 8 0 0", " chip a 8 8 0",
    "chip  a 8 8 0",
    "chip a  8 8 0", "chip a 8 8 0\n", "Chip a 8 8 0", "chip A 8 8 0", "chip a1 8 8 0", "chip abcdefghi 8 8 0",
    "chip  8 8 0", "chip a 08 8 0", "chip a 8 8 00", "chip a +8 8 0", "chip a 8 8 -0", "chip a 8.0 8 0", "chip a 8 8 x",
    "chip a 7 8 0", "chip a 25 8 0", "chip a 8 7 0", "chip a 8 17 0", "chip a 8 8 2", "chip a 24 16 18",
    "chip a 8 8 -1",
    "chip a 8 8 1_0", "chip a 1_0 8 0", "chip a 8,8,0", "chip: a 8 8 0", "a", "a:", "a: ", ": sync", "a:sync",
    "a : sync",
    "a:  sync", " a: sync", "a: sync ", "a: Sync", "a: sync\n", "A: sync", "a1: sync", "abcdefghi: sync", "a; sync",
    "sync", "file /x", "a: file x", "a: file /x ", "a: file /X", "a: file  /x", "a: keep", "a: keep K", "a: cut /x 97",
    "a: write /x 0 1,1", "a: write /x 0 7*1", "a: write /x 00 7", "a: write /x 97 7", "a: write /x 0 256",
    "a: all: file /x", "a: all: file /x; sync", "a: all: file /x;file /y", "a: chip b 8 8 0", "a: a: sync",
    "a: power", "a: power 0", "a: power 0 0 0", "a: power  0 0", "a: power 0  0", "a: power 0 0 ", "a: power 1000 0",
    "a: power -1 0", "a: power 00 0", "a: power 01 0", "a: power 0 -1", "a: power 0 00", "a: power 0 01",
    "a: power x 0",
    "a: power 0 x", "a: power 0 0x1", "a: power 0 1_0", "a: power +1 0", "a: Power 0 0", "a: powers 0 0", "a:power 0 0",
    "a: power 0 " + str(HIGHEST_MASK + 1), "a: power 0 " + "9" * 1234, "a: power 0 1" + "0" * 1234,
    "a: power 0 " + "9" * 3900, "a: power " + "9" * 3900 + " 0", "a: power 0 0\n", "power 0 0", "a: power 0 0, 0",
    "a: fails", "a: fails 0", "a: fails 0 0 0", "a: fails 1000 0", "a: fails 0 -1", "a: fails 00 0", "a: fails 0 01",
    "a: fails 0 " + str(HIGHEST_MASK + 1), "a: fail 0 0", "a: fails  0 0", "a: fails 0 0 ", "a: fails 0 1.0",
    "undo", "a: undo", "chip a 8 8 0; a: sync", "a: \u0660", "a: power \u0660 0", "chip a \u0668 8 0", "chip\ta 8 8 0",
    "chip a " + "9" * 3900 + " 8 0",
]


def desk_of(*lines):
    desk = Desk()
    for line in lines:
        desk.do(line)
    return desk


def shown(desk):
    """Return all that a desk tells, but what comes of further lines."""
    return [desk.names(), desk.lines(), len(desk)] + [
        (desk.deeds(name), desk.tree(name).whole(), desk.tree(name).next_id, desk.image(name), desk.chart(name))
        for name in desk.names()]


def going_on(desk):
    """Return what comes of further lines at each chip of a desk that is read from the lines of another one."""
    again = read_desk(desk.lines())
    answers = []
    for name in again.names():
        for line in ("sync", "dir /zz", "keep zz", "drop /zz", "sync", "fails 1 0", "file /zz", "sync"):
            answers.append(again.do(f"{name}: {line}"))
    return answers, shown(again)


class PlainDrive:
    """A chip of a desk, with all that was answered, from which point 175 is told anew each time."""

    def __init__(self, blocks, pages, bad):
        self.chip = Chip(blocks, pages, bad)
        make_chip_ready(self.chip)
        self.store, self.deeds, self.synced, self.behind_cut = Store(self.chip), [], 0, 0

    def do(self, step):
        try:
            if step == ("sync",):
                self.store.sync()
                self.synced = len(self.deeds)
                return None
            word = self.store.do(step)
            if word is None:
                self.deeds.append(step)
            return word
        except PowerCut:
            self.store = Store(self.chip)
            right = [k for k in range(len(self.deeds) + 1) if k >= max(self.synced, self.behind_cut)
                     and tree_of_deeds(self.deeds[:k]) == meaning(self.chip)]
            self.deeds = self.deeds[:min(right)]
            self.behind_cut = len(self.deeds)
            return "cut"


def tree_of_deeds(deeds):
    tree = Tree()
    for deed in deeds:
        tree.do(deed)
    return tree


def some_line(source, tree, chip):
    """Return a line for a chip, ahead of which its name is to be told."""
    word = source.choice(["deed"] * 12 + ["sync"] * 2 + ["power", "fails"])
    if word == "deed":
        deed = some_deed(source, tree) if source.random() < 0.2 else some_useful_deed(source, tree, bound_of(chip), 0.1)
        return line_of(deed)
    if word == "sync":
        return word
    return f"{word} {source.randrange(20)} {some_mask(source)}"


class DeskTest(PointTest):

    def test_examples(self):
        self.assert_session(SESSION)

    def test_each_name_is_defined_in_its_file(self):
        self.assertEqual((Desk.__module__, read_desk.__module__), (module.__name__, module.__name__))
        for name in ("do", "deeds", "names", "tree", "image", "chart", "lines", "undo", "__len__"):
            self.assertIn(name, vars(Desk))

    def test_174_a_new_desk(self):
        desk = Desk()
        self.assertEqual((desk.names(), desk.lines(), len(desk)), ([], [], 0))

    def test_174_a_new_chip(self):
        for line, shape in (("chip a 8 8 0", (8, 8, 0)), ("chip abcdefgh 24 16 17", (24, 16, 17)),
                            ("chip chip 8 16 1", (8, 16, 1)), ("chip sync 24 8 0", (24, 8, 0)),
                            ("chip all 9 9 2", (9, 9, 2))):
            desk, chip, name = Desk(), Chip(*shape), line.split(" ")[1]
            self.assertIs(desk.do(line=line), None)
            make_chip_ready(chip)
            self.assertEqual((desk.names(), desk.image(name), desk.deeds(name)), ([name], image(chip), []))
            self.assertEqual((desk.tree(name), desk.chart(name)), (Tree(), chart(chip)))

    def test_174_each_shape_at_its_bounds(self):
        for blocks in (7, 8, 24, 25):
            for pages in (7, 8, 16, 17):
                for bad in (0, blocks - 7, blocks - 6):
                    line, desk = f"chip a {blocks} {pages} {bad}", Desk()
                    if 8 <= blocks <= 24 and 8 <= pages <= 16 and bad <= blocks - 7:
                        self.assertIs(desk.do(line), None)
                    else:
                        self.assert_invalid(InvalidLine, line, desk.do, line)

    def test_174_steps(self):
        desk, store = desk_of("chip a 8 8 0", "chip b 9 9 1"), None
        chip = Chip(8, 8, 0)
        make_chip_ready(chip)
        store = Store(chip)
        for step in (("file", ("x",)), ("write", ("x",), 0, (7, 7, 9)), ("file", ("x",)), ("dir", ("d",)), ("sync",),
                     ("link", ("x",), ("d", "y")), ("move", ("x",), ("z",)), ("cut", ("z",), 2), ("keep", "k"),
                     ("all", (("file", ("p",)), ("link", ("p",), ("q",)))), ("drop", ("d",)), ("let", "l"),
                     ("sync",), ("let", "k")):
            answer = store.sync() if step == ("sync",) else store.do(step)
            self.assertEqual(desk.do("a: " + line_of(step)), answer)
            self.assertEqual((desk.tree("a"), desk.image("a")), (store.tree(), image(chip)))
        self.assertEqual((desk.tree("b"), desk.deeds("b")), (Tree(), []))

    def test_174_full(self):
        desk = desk_of("chip a 8 8 1", *[f"a: dir /{name}" for name in "abcdefghij"])
        self.assertEqual((desk.do("a: dir /k"), desk.do("a: dir /a"), len(desk.deeds("a"))), ("full", "exists", 10))

    def test_174_names_that_are_words_of_lines(self):
        desk = desk_of("chip chip 8 8 0", "chip: file /x", "chip sync 8 8 0", "sync: sync", "chip all 8 8 0",
                       "all: all: file /x; file /y", "chip power 8 8 0", "power: power 0 0", "power: fails 0 0")
        self.assertEqual((desk.names(), desk.tree("chip").listing(()), desk.tree("all").listing(())),
                         (["all", "chip", "power", "sync"], ["x"], ["x", "y"]))

    def test_174_a_deed_that_ends_in_the_word_of_a_sync(self):
        desk = desk_of("chip a 8 8 0", "a: keep sync", "a: dir /sync", "a: power 0 0")
        self.assertEqual((desk.deeds("a"), desk.do("a: sync")), ([("keep", "sync"), ("dir", ("sync",))], "cut"))
        self.assertEqual(desk.deeds("a"), [])

    def test_174_a_chip_in_the_place_of_another_one(self):
        desk = desk_of("chip a 8 8 0", "a: file /x", "a: sync", "a: power 3 0", "a: file /y")
        self.assertIs(desk.do("chip a 9 9 0"), None)
        self.assertEqual((desk.names(), desk.deeds("a"), desk.tree("a")), (["a"], [], Tree()))
        self.assertEqual(desk.image("a"), desk_of("chip a 9 9 0").image("a"))
        self.assertEqual([desk.do(f"a: dir /{name}") for name in "abc"] + [desk.do("a: sync")], [None] * 4)

    def test_174_plans(self):
        desk = desk_of("chip a 8 8 1", "a: file /x", "a: power 1 0")
        self.assertEqual((desk.do("a: sync"), desk.deeds("a"), desk.tree("a")), ("cut", [], Tree()))
        self.assertEqual(desk.do(f"a: fails 0 {HIGHEST_MASK}"), None)
        self.assertEqual([desk.do("a: file /x"), desk.do("a: sync")], [None, None])
        self.assertEqual([row[:3] for row in desk.chart("a")[:3]], ["0 *", "1 *", "2 -"])
        self.assertEqual(desk.deeds("a"), [("file", ("x",))])
        chip = Chip(8, 8, 1)
        make_chip_ready(chip)
        store = Store(chip)
        store.do(("file", ("x",)))
        chip.cut(3, 0)
        with self.assertRaises(PowerCut):
            store.sync()
        chip.fail(chip.ops, HIGHEST_MASK)
        store = Store(chip)
        store.do(("file", ("x",)))
        store.sync()
        self.assertEqual(desk.image("a"), image(chip))

    def test_174_plans_at_their_bounds(self):
        for word in ("power", "fails"):
            for ops in (0, 1, 999):
                for mask in (0, 1, HIGHEST_MASK):
                    self.assertIs(desk_of("chip a 8 8 1").do(f"a: {word} {ops} {mask}"), None)
        desk = desk_of("chip a 8 8 0", f"a: power 999 {HIGHEST_MASK}", "a: power 3 5", "a: dir /x", "a: dir /y")
        self.assertEqual((desk.do("a: sync"), desk.deeds("a")), ("cut", [("dir", ("x",))]))

    def test_174_values_that_are_no_line(self):
        desk = desk_of("chip a 8 8 0", "a: file /x")
        before = shown(desk)
        for wrong in NO_LINES:
            self.assert_invalid(InvalidLine, wrong, desk.do, wrong)
        self.assertEqual(shown(desk), before)

    def test_174_the_line_is_asked_for_ahead_of_the_name(self):
        desk = Desk()
        for wrong in ("a: sink", "q: power 1000 0", "chip a 7 8 0"):
            self.assert_invalid(InvalidLine, wrong, desk.do, wrong)

    def test_174_names_that_have_no_chip(self):
        desk = desk_of("chip a 8 8 0")
        before = shown(desk)
        for line in ("b: sync", "b: file /x", "b: power 0 0", "b: fails 0 0", "chip: sync", "abcdefgh: sync"):
            with self.assertRaises(NoThing) as caught:
                desk.do(line)
            self.assertEqual((type(caught.exception), caught.exception.name), (NoThing, line.split(":")[0]))
        self.assertEqual(shown(desk), before)

    def test_174_a_fifth_name(self):
        desk = desk_of(*[f"chip {name} 8 8 0" for name in "dbca"])
        before = shown(desk)
        for line in ("chip e 8 8 0", "chip aa 8 8 0"):
            with self.assertRaises(TooMany) as caught:
                desk.do(line)
            self.assertEqual((type(caught.exception), caught.exception.count), (TooMany, 5))
        self.assert_invalid(InvalidLine, "chip e 7 8 0", desk.do, "chip e 7 8 0")
        self.assertEqual(shown(desk), before)
        self.assertIs(desk.do("chip c 9 9 0"), None)
        self.assertEqual(desk.names(), ["a", "b", "c", "d"])
        desk.undo()
        desk.undo()
        self.assertEqual((desk.names(), desk.do("chip e 8 8 0")), (["b", "c", "d"], None))

    def test_175_deeds(self):
        desk = desk_of("chip a 8 8 0", "a: file /x", "a: file /x", "a: write /x 3 5*2", "a: drop /q",
                       "a: all: write /x 0 9; link /x /y", "a: sync", "a: keep k")
        deeds = [("file", ("x",)), ("write", ("x",), 3, (5, 5)),
                 ("all", (("write", ("x",), 0, (9,)), ("link", ("x",), ("y",)))), ("keep", "k")]
        self.assertEqual((desk.deeds(name="a"), type(desk.deeds("a"))), (deeds, list))
        self.assertEqual([line_of(deed) for deed in deeds], [line_of(read_deed(line_of(deed))) for deed in deeds])
        desk.deeds("a").clear()
        self.assertEqual(len(desk.deeds("a")), 4)

    def test_175_cuts_at_each_op_of_a_sync(self):
        lines = ["chip a 8 8 0", "a: file /w", "a: sync"] + [f"a: file /{name}" for name in "xyz"] + ["a: keep k"]
        for k in range(10):
            for mask in (0, 6, HIGHEST_MASK):
                desk = desk_of(*lines, f"a: power {k} {mask}")
                before = desk.deeds("a")
                self.assertEqual(desk.do("a: sync"), "cut" if k < 9 else None)
                whole = k + (mask == HIGHEST_MASK)
                count = [1, 1, 2, 2, 3, 3, 3, 3, 4, 5][min(whole, 9)]
                self.assertEqual(desk.deeds("a"), before[:count], (k, mask))
                self.assertEqual(desk.tree("a"), tree_of_deeds(before[:count]))
                if k < 9:
                    self.assertEqual([desk.do("a: dir /more"), desk.do("a: sync")], [None, None])
                    self.assertEqual(desk.deeds("a"), before[:count] + [("dir", ("more",))])

    def test_175_a_cut_amid_the_ninth_deed(self):
        desk = desk_of("chip a 8 8 0", *[f"a: dir /{name}" for name in "abcdefgh"],
                       "a: power 4 0")
        self.assertEqual((desk.do("a: dir /i"), desk.deeds("a")), ("cut", [("dir", ("a",)), ("dir", ("b",))]))
        self.assertEqual((desk.tree("a").listing(()), desk.do("a: dir /i")), (["a", "b"], None))
        self.assertEqual(desk.deeds("a")[2:], [("dir", ("i",))])

    def test_175_the_shortest_beginning(self):
        turn = ["a: dir /d", "a: drop /d"]
        desk = desk_of("chip a 8 8 0", "a: file /x", *turn * 3)
        desk.do("a: power 6 0")
        self.assertEqual((desk.do("a: sync"), desk.deeds("a")), ("cut", [("file", ("x",))]))
        desk = desk_of("chip a 8 8 0", "a: file /x", *turn, "a: sync", *turn, f"a: power 5 {HIGHEST_MASK}")
        self.assertEqual(desk.do("a: sync"), "cut")
        self.assertEqual(len(desk.deeds("a")), 3)
        for line in turn + ["a: power 0 0"]:
            self.assertIs(desk.do(line), None)
        self.assertEqual((desk.do("a: sync"), len(desk.deeds("a"))), ("cut", 3))

    def test_175_what_was_there_behind_the_cut_before_stays(self):
        desk = desk_of("chip a 8 8 0", "a: dir /d", "a: drop /d", "a: dir /e", f"a: power 5 {HIGHEST_MASK}")
        self.assertEqual((desk.do("a: sync"), len(desk.deeds("a"))), ("cut", 3))
        for line in ("a: drop /e", f"a: power 3 {HIGHEST_MASK}"):
            self.assertIs(desk.do(line), None)
        self.assertEqual((desk.do("a: sync"), len(desk.deeds("a")), desk.tree("a")), ("cut", 4, Tree()))

    def test_175_a_sync_that_is_cut_is_none_that_was_answered_with_none(self):
        desk = desk_of("chip a 8 8 0", "a: dir /d", "a: power 0 0")
        self.assertEqual((desk.do("a: sync"), desk.deeds("a")), ("cut", []))
        desk.do("a: dir /e")
        desk.do("a: power 1 0")
        self.assertEqual((desk.do("a: sync"), desk.deeds("a")), ("cut", []))

    def test_175_a_refused_deed_is_none(self):
        desk = desk_of("chip a 8 8 0", "a: drop /x", "a: file /x", "a: file /x", "a: sync", "a: file /y",
                       "a: power 0 0", "a: sync")
        self.assertEqual(desk.deeds("a"), [("file", ("x",))])

    def test_175_used_desks(self):
        source, cuts = dice(175), 0
        for _ in range(25):
            shape = source.choice([(8, 8, 0), (8, 8, 1), (9, 8, 2)])
            desk, plain = desk_of("chip a {} {} {}".format(*shape)), PlainDrive(*shape)
            for _ in range(58):
                line = some_line(source, plain.store.tree(), plain.chip)
                answer = desk.do("a: " + line)
                words = line.split(" ")
                if words[0] in ("power", "fails"):
                    plan = plain.chip.cut if words[0] == "power" else plain.chip.fail
                    self.assertIs(answer, plan(plain.chip.ops + int(words[1]), int(words[2])))
                else:
                    self.assertEqual(answer, plain.do(read_deed(line)))
                cuts += answer == "cut"
                self.assertEqual((desk.deeds("a"), desk.image("a")), (plain.deeds, image(plain.chip)))
                self.assertEqual(desk.tree("a"), tree_of_deeds(desk.deeds("a")))
            self.assertEqual(findings(plain.chip), [])
        self.assertGreater(cuts, 20)

    def test_176_looking(self):
        desk = desk_of("chip c 8 8 0", "chip a 8 8 0", "a: file /x", "chip b 9 9 1")
        self.assertEqual((desk.names(), desk.tree(name="a").listing(())), (["a", "b", "c"], ["x"]))
        self.assertEqual((type(desk.names()), type(desk.tree("a")), type(desk.image(name="a"))), (list, Tree, tuple))
        self.assertEqual((len(desk.image("a")), len(desk.chart(name="b"))), (11 + 8 * (5 + 31 * 8), 9))
        desk.names().clear()
        desk.chart("a").clear()
        desk.tree("a").do(("file", ("y",)))
        self.assertEqual((desk.names(), len(desk.chart("a")), desk.tree("a").listing(())), (["a", "b", "c"], 8, ["x"]))

    def test_176_values_that_are_no_name_of_the_desk(self):
        desk = desk_of("chip a 8 8 0")
        for call in (desk.deeds, desk.tree, desk.image, desk.chart):
            for wrong in [value for value in ANY_VALUES + NO_NAMES if value != "a"] + ["b", "aa", "chip"]:
                with self.assertRaises(NoThing) as caught:
                    call(wrong)
                self.assertIs(type(caught.exception), NoThing)
                self.assertIs(caught.exception.name, wrong)

    def test_177_lines(self):
        lines = ["chip a 8 8 0", "a: file /x", "a: file /x", "a: power 0 0", "a: sync", "a: sync"]
        desk = desk_of(*lines)
        for wrong in ("a: file", "b: sync", None):
            with self.assertRaises((InvalidLine, NoThing)):
                desk.do(wrong)
        self.assertEqual((desk.lines(), len(desk), type(desk.lines())), (lines, 6, list))
        desk.lines().clear()
        self.assertEqual(desk.lines(), lines)

    def test_177_undo_down_to_nothing(self):
        lines = ["chip a 8 8 0", "a: file /x", "a: file /x", "a: write /x 0 5", "a: power 2 0", "a: fails 9 3",
                 "a: sync", "chip b 8 8 1", "b: keep k", "chip a 9 9 1", "a: dir /y", "a: sync", "chip c 8 8 0",
                 "chip d 8 8 0", "b: let k", "b: sync", "a: fails 0 0", "a: dir /z", "a: sync"]
        befores, desk = [], Desk()
        for line in lines:
            befores.append((shown(desk), going_on(desk)))
            desk.do(line)
        for before in reversed(befores):
            self.assertIs(desk.undo(), None)
            self.assertEqual((shown(desk), going_on(desk)), before)
            self.assertEqual(self.answers_of(deepcopy(desk)), self.answers_of(read_desk(desk.lines())))
        with self.assertRaises(NothingToUndo):
            desk.undo()
        self.assertEqual((desk.names(), desk.lines(), len(desk)), ([], [], 0))

    def answers_of(self, desk):
        answers = [desk.do(f"{name}: {line}") for name in desk.names() for line in (
            "dir /more", "sync", "dir /yet", "sync", "keep more", "sync")]
        return answers, shown(desk)

    def test_177_undo_brings_back_plans_and_pending_deeds(self):
        desk = desk_of("chip a 8 8 0", "a: file /x", "a: power 0 0")
        self.assertEqual((desk.do("a: sync"), desk.undo(), desk.do("a: sync")), ("cut", None, "cut"))
        self.assertEqual((desk.undo(), desk.undo(), desk.do("a: sync")), (None, None, None))
        self.assertEqual((desk.deeds("a"), desk.tree("a").listing(())), ([("file", ("x",))], ["x"]))
        desk = desk_of("chip a 8 8 0", "a: file /x", "a: sync", "chip a 9 9 0")
        self.assertEqual((desk.undo(), desk.tree("a").listing(()), desk.deeds("a")), (None, ["x"], [("file", ("x",))]))

    def test_177_a_desk_goes_on_behind_undo(self):
        source = dice(177)
        for _ in range(6):
            desk = desk_of("chip a 8 8 1", "chip b 9 8 2")
            for _ in range(50):
                if source.random() < 0.15 and len(desk) > 2:
                    desk.undo()
                    self.assertEqual(shown(desk), shown(read_desk(desk.lines())))
                else:
                    name = source.choice("ab")
                    desk.do(f"{name}: " + some_line(source, desk.tree(name), Chip(8, 8, 1)))
            self.assertEqual(shown(desk), shown(read_desk(tuple(desk.lines()))))
            self.assertEqual(going_on(desk), going_on(read_desk(lines=desk.lines())))

    def test_177_reading(self):
        self.assertEqual(shown(read_desk([])), shown(Desk()))
        self.assertEqual(shown(read_desk(())), shown(Desk()))
        lines = ["chip a 8 8 0", "a: file /x", "a: power 1 0", "a: sync"]
        desk = read_desk(lines)
        self.assertIs(type(desk), Desk)
        lines.append("a: sync")
        self.assertEqual((len(desk), desk.deeds("a"), shown(desk)), (4, [], shown(desk_of(*lines[:4]))))

    def test_177_values_that_are_no_lines(self):
        for wrong in [value for value in ANY_VALUES if not isinstance(value, (list, tuple))]:
            self.assert_invalid(InvalidLine, wrong, read_desk, wrong)
        for wrong in NO_LINES:
            self.assert_invalid(InvalidLine, wrong, read_desk, ["chip a 8 8 0", wrong, "b: sync"])
        with self.assertRaises(NoThing) as caught:
            read_desk(["chip a 8 8 0", "b: sync", "sync"])
        self.assertEqual(caught.exception.name, "b")
        with self.assertRaises(TooMany) as caught:
            read_desk([f"chip {name} 8 8 0" for name in "abcde"])
        self.assertEqual(caught.exception.count, 5)

    def test_177_sixty_lines(self):
        lines = ["chip a 24 16 2"] + [f"a: dir /d{name}" for name in "abcdefghijklmnopqrstuvwxyz"] + ["a: sync"] * 3
        lines += [f"a: drop /d{name}" for name in "abcdefghijklmnopqrstuvwxyz"] + ["a: sync"] * 4
        desk = desk_of(*lines)
        self.assertEqual((len(desk), len(desk.deeds("a")), desk.tree("a")), (60, 52, Tree()))
        for _ in range(30):
            desk.undo()
        self.assertEqual((len(desk), len(desk.tree("a").listing(()))), (30, 26))
