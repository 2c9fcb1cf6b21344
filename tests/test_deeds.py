"""Points 71 to 77: steps, scripts and their lines."""

from onewaybits import deeds as module
from onewaybits.deeds import is_script, line_of, read_deed, read_script
from onewaybits.errors import InvalidDeed, InvalidLine, InvalidScript
from onewaybits.tree import Tree, is_deed
from tests.helper import PointTest, dice
from tests.model import some_deed
from tests.test_do import DEEDS
from tests.values import ANY_VALUES

SESSION = """
>>> from onewaybits.deeds import is_script, line_of, read_deed, read_script
>>> line_of(("write", ("a", "doc"), 15, [0, 255, 255, 255, 7]))
'write /a/doc 15 0,255*3,7'
>>> [read_deed("move /a/b /"), read_deed("write /c 0 9*3"), read_deed("sync")]
[('move', ('a', 'b'), ()), ('write', ('c',), 0, (9, 9, 9)), ('sync',)]
>>> [read_script(["dir /a", "sync", "drop /a"]), read_script([]), is_script([["sync"]])]
[[('dir', ('a',)), ('sync',), ('drop', ('a',))], [], False]
>>> [line_of(("keep", "old")), read_deed("all: dir /a; file /a/b")]
['keep old', ('all', (('dir', ('a',)), ('file', ('a', 'b'))))]
>>> read_deed("write /c 0 9,9")
raises InvalidLine('write /c 0 9,9')
"""
LINES = {
    "file /a": ("file", ("a",)),
    "file /": ("file", ()),
    "dir /a/abcdefgh/c": ("dir", ("a", "abcdefgh", "c")),
    "drop /z": ("drop", ("z",)),
    "write /a 0 0": ("write", ("a",), 0, (0,)),
    "write / 96 255*48": ("write", (), 96, (255,) * 48),
    "write /a 9 1,2,1,2*2,1*10": ("write", ("a",), 9, (1, 2, 1, 2, 2) + (1,) * 10),
    "write /a 10 " + ",".join(["100", "101"] * 24): ("write", ("a",), 10, (100, 101) * 24),
    "cut /a 0": ("cut", ("a",), 0),
    "cut /a/b 96": ("cut", ("a", "b"), 96),
    "link /a /b/c": ("link", ("a",), ("b", "c")),
    "link / /": ("link", (), ()),
    "move /a /": ("move", ("a",), ()),
    "keep old": ("keep", "old"),
    "let abcdefgh": ("let", "abcdefgh"),
    "keep all": ("keep", "all"),
    "keep sync": ("keep", "sync"),
    "let sync": ("let", "sync"),
    "file /sync/all": ("file", ("sync", "all")),
    "sync": ("sync",),
    "all: file /a; drop /a": ("all", (("file", ("a",)), ("drop", ("a",)))),
    "all: write /a 0 1*3,2; cut /a 2; move /a /b; dir /": (
        "all", (("write", ("a",), 0, (1, 1, 1, 2)), ("cut", ("a",), 2), ("move", ("a",), ("b",)), ("dir", ()))),
}
NO_LINES = [
    "", " ", "\n", "file", "file ", " file /a", "file /a ", "file  /a", "file /a\n", "file\t/a", "\nfile /a",
    "file /a /b", "File /a", "FILE /a", "file a", "file //a", "file /a/", "file /A", "file /a//b", "file /abcdefghi",
    "file /a1", "file //", "file /a;", "file: /a", "dir", "drop", "drop /a /b", "make /a", "write /a 0",
    "write /a 0 ", "write /a 0 1 ", "write /a 1", "write /a 00 1", "write /a 01 1", "write /a +1 1", "write /a -1 1",
    "write /a 1_0 1", "write /a 97 1", "write /a 1000 1", "write /a  1", "write /a 0x1 1", "write /a 0 256",
    "write /a 0 07", "write /a 0 -1", "write /a 0 +1", "write /a 0 1,", "write /a 0 ,1", "write /a 0 1,,2",
    "write /a 0 1, 2", "write /a 0 1 ,2", "write /a 0 1*", "write /a 0 *1", "write /a 0 1*1", "write /a 0 1*0",
    "write /a 0 1*02", "write /a 0 1**2", "write /a 0 1*2*2", "write /a 0 1* 2", "write /a 0 1,1", "write /a 0 1*2,1",
    "write /a 0 1,1*2", "write /a 0 1*2,1*2", "write /a 0 1*49", "write /a 0 1*48,2", "write /a 0 1*24,2*25",
    "write /a 0 1*-2", "write /a 0 1*+2", "write /a 0 1*2_0", "write /a 0 1_0", "write /a 0 1;2", "write /a 0 1.0",
    "write /a 0 " + "1" * 3900, "write /a " + "9" * 3900 + " 1", "cut /a " + "9" * 6000, "write /a 0 1*" + "9" * 3900,
    "write /a 0 1*999", "write /a 0 " + ",".join(["1*999", "2*999"] * 280),
    "write /a 0 " + ",".join(["1", "2"] * 24 + ["3"]), "cut /a", "cut /a 97", "cut /a 096", "cut /a 1 1", "cut /a ",
    "cut /a -0", "cut /a " + "0" * 3900, "link /a", "link /a b", "link /a /b /c", "move /a  /b", "move /a", "keep",
    "keep ", "keep /a", "keep A", "keep abcdefghi", "keep a b", "let", "let /a", "let 1", "sync ", " sync", "Sync",
    "sync /a", "sync sync", "sync;", "all", "all:", "all: ", "all: file /a", "all: file /a; ", "all file /a; file /b",
    "all:file /a; file /b", "all:  file /a; file /b", "all: file /a;file /b", "all: file /a;  file /b",
    "all: file /a ; file /b", "all: file /a; file /b;", "all: file /a; file /b; ", "all: file /a;; file /b",
    "ALL: file /a; dir /b", "all: file /a; keep old", "all: let old; file /a", "all: sync; file /a",
    "all: file /a; sync", "all: all: file /a; file /b; file /c", "all: file /a; all: file /b; file /c",
    "all: " + "; ".join(["file /a"] * 5), "all: file /a, file /b", "all: file /a; write /b 0 1,1",
    "all: file /a; file /b\n", "file /a; file /b", "file /a\nfile /b", "all: file /a; None", "None", "a" * 4000,
    "/" * 4000, "write /a 0 1,0*1", "write /a 0 0*2,0",
]


def some_steps():
    source = dice(71)
    tree = Tree()
    found = [("sync",)] + DEEDS
    for _ in range(300):
        deed = some_deed(source, tree)
        tree.do(deed)
        found.append(deed)
    return found


def plain(step):
    """Return a step with each list of octets in it as a tuple."""
    return tuple(plain(part) if isinstance(part, (tuple, list)) else part for part in step)


class DeedsTest(PointTest):

    def test_examples(self):
        self.assert_session(SESSION)

    def test_each_function_is_defined_in_its_file(self):
        for name in ("is_script", "line_of", "read_deed", "read_script"):
            self.assertEqual(getattr(module, name).__module__, "onewaybits.deeds")

    def test_9_arguments_by_name(self):
        self.assertEqual((line_of(step=("sync",)), read_deed(line="sync")), ("sync", ("sync",)))
        self.assertEqual((read_script(lines=("sync",)), is_script(value=(("sync",),))), ([("sync",)], True))

    def test_71_scripts(self):
        for script in ([], (), [("sync",)], (("sync",),) * 60, list(some_steps()[:60]), DEEDS,
                       [("sync",), ("keep", "a")]):
            self.assertIs(is_script(script), True)

    def test_71_no_scripts(self):
        for value in [[("sync",)] * 61, (("sync",),) * 61, ("sync",), [["sync"]], [("sync", 1)], [("sync",), None],
                      [("Sync",)], [((),)], [[]], [("file", ["a"])], {"a": ("sync",)}, "sync", DEEDS[0], [DEEDS],
                      [list(DEEDS[0])],
                      [(("sync",),)], [("write", ("a",), 0, [])], [("all", (("sync",), ("sync",)))], some_steps()[:61]]:
            self.assertIs(is_script(value), False)
        for value in ANY_VALUES:
            self.assertIs(is_script(value), value in ([], ()), value)
            self.assertIs(is_script([value]), False)

    def test_72_to_74_lines(self):
        for line, step in LINES.items():
            self.assertEqual(line_of(step), line)
            self.assertEqual(read_deed(line), step)
            self.assertIs(type(read_deed(line)), tuple)

    def test_74_runs(self):
        for octets, word in (
            ([0, 255, 255, 255, 7], "0,255*3,7"), ([9] * 48, "9*48"), ([1, 1], "1*2"), ([1], "1"),
            ([1, 2, 2, 1], "1,2*2,1"),
            ([100, 200] * 24, "100,200," * 23 + "100,200"), ([0] * 10 + [1] * 10, "0*10,1*10"),
        ):
            self.assertEqual(line_of(("write", ("a",), 0, octets)), f"write /a 0 {word}")
            self.assertLessEqual(len(word), 4 * len(octets) - 1)
            self.assert_octets(read_deed(f"write /a 0 {word}")[3], octets)

    def test_75_there_and_back(self):
        for step in some_steps():
            line = line_of(step)
            self.assertIs(type(line), str)
            self.assertEqual(read_deed(line), plain(step))
            self.assertEqual(line_of(read_deed(line)), line)
            self.assertEqual(line_of(plain(step)), line)

    def test_75_unlike_steps_have_unlike_lines(self):
        lines = {}
        for step in some_steps():
            self.assertEqual(lines.setdefault(line_of(step), plain(step)), plain(step))

    def test_75_no_step(self):
        for wrong in ANY_VALUES + [["sync"], ("sync", "sync"), ("file", ["a"]), ("write", ("a",), 0, []),
                                   list(DEEDS[0]),
                                   ("all", (("sync",), ("sync",))), "sync", [("sync",)]]:
            self.assert_invalid(InvalidDeed, wrong, line_of, wrong)

    def test_75_long_lines(self):
        path = ("abcdefgh",) * 60
        step = ("all", (("move", path, path), ("write", path, 96, [100, 200] * 24), ("link", path, path),
                        ("dir", path)))
        self.assertLess(len(line_of(step)), 4000)
        self.assertEqual(read_deed(line_of(step)), plain(step))

    def test_76_octets_are_a_tuple(self):
        self.assert_octets(read_deed("write /a 0 1,2*2")[3], [1, 2, 2])
        self.assert_octets(read_deed("all: write /a 0 1,2*2; dir /b")[1][0][3], [1, 2, 2])

    def test_76_no_lines(self):
        for wrong in NO_LINES + ANY_VALUES:
            if wrong not in ("sync",):
                self.assert_invalid(InvalidLine, wrong, read_deed, wrong)

    def test_76_a_line_with_one_sign_more_or_less_or_of_another_kind(self):
        source = dice(76)
        lines = set(LINES) | {line_of(step) for step in some_steps()[:60]}
        for line in sorted(lines):
            for place in range(len(line) + 1):
                sign = source.choice(" /,;:*019azA-_~\n\t")
                for other in (line[:place] + line[place + 1:], line[:place] + sign + line[place:],
                              line[:place] + sign + line[place + 1:]):
                    self.check_reading(other)

    def check_reading(self, line):
        try:
            step = read_deed(line)
        except InvalidLine as caught:
            self.assertIs(caught.given, line)
        else:
            self.assertTrue(is_deed(step) or step == ("sync",))
            self.assertEqual(line_of(step), line)

    def test_77_scripts_from_lines(self):
        lines = list(LINES)
        self.assertEqual(read_script(lines), list(LINES.values()))
        self.assertEqual(read_script(tuple(lines)), list(LINES.values()))
        self.assertIs(type(read_script(tuple(lines))), list)
        self.assertEqual((read_script([]), read_script(["sync"] * 60)), ([], [("sync",)] * 60))
        self.assertTrue(is_script(read_script(lines)))
        self.assertEqual(lines, list(LINES))

    def test_77_results_are_new(self):
        lines = ["sync"]
        read_script(lines).append(("sync",))
        self.assertEqual(read_script(lines), [("sync",)])

    def test_77_no_scripts(self):
        for wrong in [value for value in ANY_VALUES if not isinstance(value, (list, tuple))] + [
                ["sync"] * 61, ("sync",) * 61, ["none"] * 61, "sync", {"sync": 1}, None]:
            self.assert_invalid(InvalidScript, wrong, read_script, wrong)

    def test_77_the_first_item_that_is_no_line(self):
        for wrong in NO_LINES[:20] + [None, 1, True, ["sync"], ("sync",), {}, Tree()]:
            self.assert_invalid(InvalidLine, wrong, read_script, ["sync", "file /a", wrong, "sync", "none"])
            self.assert_invalid(InvalidLine, wrong, read_script, (wrong, None))

    def test_77_trees_by_steps_and_by_lines(self):
        for seed in range(30):
            source = dice(seed)
            first, second = Tree(), Tree()
            script = []
            for _ in range(60):
                script.append(some_deed(source, first))
                first.do(script[-1])
            first, answers = Tree(), []
            for step in script:
                answers.append(first.do(step))
            self.assertEqual([second.do(step) for step in read_script([line_of(step) for step in script])], answers)
            self.assertEqual((first, first.next_id), (second, second.next_id))
