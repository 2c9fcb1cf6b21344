"""Points 64, 65 and 70: deeds, what they do, the words by which they are refused, and deeds that are done together."""

from onewaybits.errors import InvalidDeed
from onewaybits.groups import group
from onewaybits.tree import Tree, is_deed
from tests.helper import NO_INTS, NO_OCTETS, PointTest
from tests.test_tree import grown
from tests.values import ANY_VALUES, NO_NAMES, NO_PATHS

DEEDS = [
    ("file", ("a",)), ("file", ()), ("dir", ("a", "abcdefgh")), ("dir", ()), ("write", ("a",), 0, [1]),
    ("write", (), 96, (255,) * 48), ("write", ("a",), 96, [0]), ("cut", ("a",), 0), ("cut", ("a",), 96),
    ("link", ("a",), ()), ("link", (), ("b",)), ("move", ("a",), ("b",)), ("move", (), ()), ("drop", ("a",)),
    ("drop", ()),
    ("keep", "a"), ("let", "abcdefgh"), ("all", (("file", ("a",)), ("drop", ("a",)))),
    ("all", (("write", ("a",), 0, [1, 2]),) * 4), ("all", (("cut", ("a",), 3),) * 3),
]
# Paths that tell which word is due ahead of which.
LOST = [("no", "way"), ("f", "x"), ("d", "f", "x")]


def some_tree():
    """Return a tree with a file of two paths, an empty directory and one with a file."""
    return grown(
        ("file", ("f",)), ("link", ("f",), ("g",)), ("dir", ("e",)), ("dir", ("d",)), ("file", ("d", "f")),
        ("dir", ("d", "e")), ("file", ("h",)), ("write", ("f",), 0, [7] * 20),
    )


class DeedsTest(PointTest):

    def test_64_deeds(self):
        for deed in DEEDS:
            self.assertIs(is_deed(deed), True, deed)

    def test_64_any_value_is_no_deed(self):
        for value in ANY_VALUES:
            self.assertIs(is_deed(value), False, value)

    def test_64_a_list_is_no_deed_and_no_word_is_of_another_kind(self):
        for deed in DEEDS:
            for wrong in (list(deed), deed + (1,), deed[:-1], (list(deed[0]),) + deed[1:], (deed,), (None,) + deed[1:],
                          (deed[0].upper(),) + deed[1:], (deed[0] + " ",) + deed[1:], (Tree(),) + deed[1:],
                          ((deed[0],),) + deed[1:], dict([deed[:2]])):
                self.assertIs(is_deed(wrong), False, wrong)

    def test_64_paths(self):
        for wrong in NO_PATHS:
            for deed in (("file", wrong), ("dir", wrong), ("drop", wrong), ("write", wrong, 0, [1]), ("cut", wrong, 0),
                         ("link", wrong, ()), ("link", (), wrong), ("move", wrong, ()), ("move", (), wrong)):
                self.assertIs(is_deed(deed), False, deed)

    def test_64_numbers(self):
        for wrong in NO_INTS + [-1, 97, 2 ** 70]:
            self.assertIs(is_deed(("write", ("a",), wrong, [1])), False)
            self.assertIs(is_deed(("cut", ("a",), wrong)), False)

    def test_64_octets(self):
        for wrong in NO_OCTETS + [[], (), [0] * 49, (0,) * 49, [1, True], [0, 256], "1"]:
            self.assertIs(is_deed(("write", ("a",), 0, wrong)), False)
        for octets in ([0], [255] * 48, (0,), (255,) * 48):
            self.assertIs(is_deed(("write", ("a",), 0, octets)), True)

    def test_64_names(self):
        for wrong in NO_NAMES:
            self.assertIs(is_deed(("keep", wrong)), False)
            self.assertIs(is_deed(("let", wrong)), False)

    def test_64_deeds_together(self):
        one = ("file", ("a",))
        for count in range(7):
            self.assertIs(is_deed(("all", (one,) * count)), 2 <= count <= 4)
            self.assertIs(is_deed(("all", [one] * count)), False)
        for wrong in (("keep", "a"), ("let", "a"), ("all", (one, one)), ("sync",), list(one), None, "file", (),
                      ("file", )):
            self.assertIs(is_deed(("all", (one, wrong))), False)
            self.assertIs(is_deed(("all", (wrong, one, one))), False)
        self.assertIs(is_deed(("all", one, one)), False)
        self.assertIs(is_deed(("all", one)), False)

    def assert_refused(self, deed, word, tree=None):
        tree = tree or some_tree()
        before, next_id = tree.whole(), tree.next_id
        self.assertEqual(tree.do(deed), word, deed)
        self.assertEqual((tree.whole(), tree.next_id), (before, next_id))

    def assert_done(self, deed, **shown):
        """Check what the paths, told as words with _ for /, lead to behind a deed."""
        tree = some_tree()
        self.assertIs(tree.do(deed), None, deed)
        for word, value in shown.items():
            path = tuple(word.split("_"))
            self.assertEqual(tree.read(path) or tree.listing(path), value, (deed, path))
        return tree

    def test_65_file_and_dir(self):
        for word in ("file", "dir"):
            for path in LOST + [()]:
                self.assert_refused((word, path), "path")
            for path in (("f",), ("e",), ("d", "f"), ("d", "e")):
                self.assert_refused((word, path), "exists")
        tree = self.assert_done(("file", ("e", "n")), e=["n"])
        self.assertEqual((tree.kind_of(("e", "n")), tree.size_of(("e", "n"))), ("file", 0))
        tree = self.assert_done(("dir", ("e", "n")), e=["n"])
        self.assertEqual((tree.kind_of(("e", "n")), tree.listing(("e", "n"))), ("dir", []))

    def test_65_write(self):
        for path in LOST + [()]:
            self.assert_refused(("write", path, 96, [1]), "path")
        for path in (("n",), ("d", "n"), ("e", "n")):
            self.assert_refused(("write", path, 96, [1]), "none")
        for path in (("d",), ("e",), ("d", "e")):
            self.assert_refused(("write", path, 96, [1]), "kind")
        for at, count in ((96, 1), (49, 48), (95, 2), (96, 48)):
            self.assert_refused(("write", ("f",), at, [1] * count), "long")
        self.assert_done(("write", ("f",), 48, [1] * 48), f=(7,) * 20 + (0,) * 28 + (1,) * 48)
        self.assert_done(("write", ("f",), 95, [1]), g=(7,) * 20 + (0,) * 75 + (1,))

    def test_65_cut(self):
        for path in LOST + [()]:
            self.assert_refused(("cut", path, 0), "path")
        self.assert_refused(("cut", ("n",), 0), "none")
        for path in (("d",), ("e",)):
            self.assert_refused(("cut", path, 0), "kind")
        self.assert_done(("cut", ("f",), 96), f=(7,) * 20 + (0,) * 76)
        self.assert_done(("cut", ("f",), 20), f=(7,) * 20)

    def test_65_link(self):
        for path in LOST + [()]:
            self.assert_refused(("link", path, ("f",)), "path")
        self.assert_refused(("link", ("n",), ("f",)), "none")
        self.assert_refused(("link", ("d",), ("no", "way")), "kind")
        for new in LOST + [()]:
            self.assert_refused(("link", ("f",), new), "path")
        for new in (("f",), ("g",), ("e",), ("d", "f")):
            self.assert_refused(("link", ("f",), new), "exists")
        tree = self.assert_done(("link", ("f",), ("e", "n")), e_n=(7,) * 20, f=(7,) * 20, e=["n"])
        self.assertIs(tree.do(("write", ("e", "n"), 0, [1])), None)
        self.assertEqual(tree.read(("g",))[:2], (1, 7))

    def test_65_move(self):
        for path in LOST + [()]:
            self.assert_refused(("move", path, ("no", "way")), "path")
        self.assert_refused(("move", ("n",), ("no", "way")), "none")
        for new in LOST + [()]:
            self.assert_refused(("move", ("f",), new), "path")
        self.assert_refused(("move", ("d",), ("d", "n")), "ring")
        self.assert_refused(("move", ("d",), ("d", "e", "n")), "ring")
        self.assert_refused(("move", ("d",), ("d", "e")), "ring")
        self.assert_refused(("move", ("d",), ("d", "f")), "ring")
        self.assert_refused(("move", ("d",), ("d", "n", "n")), "path")
        for path, new in ((("f",), ("f",)), (("f",), ("g",)), (("d",), ("d",)), (("d", "e"), ("d", "e"))):
            self.assert_refused(("move", path, new), "exists")
        for path, new in ((("f",), ("e",)), (("f",), ("d",)), (("e",), ("f",)), (("d", "f"), ("d",)),
                          (("d", "f"), ("d", "e"))):
            self.assert_refused(("move", path, new), "kind")
        for path, new in ((("e",), ("d",)), (("d", "e"), ("d",))):
            self.assert_refused(("move", path, new), "filled")

    def test_65_moves_that_are_done(self):
        self.assert_done(("move", ("f",), ("e", "n")), f=None, e_n=(7,) * 20, g=(7,) * 20)
        self.assert_done(("move", ("f",), ("d", "f")), f=None, d_f=(7,) * 20)
        tree = self.assert_done(("move", ("d",), ("e",)), d=None, e=["e", "f"])
        self.assertEqual(tree.kind_of(("e", "e")), "dir")
        self.assert_done(("move", ("d",), ("e", "n")), d=None, e=["n"], e_n=["e", "f"])
        tree = self.assert_done(("move", ("h",), ("g",)), f=(7,) * 20)
        self.assertEqual((tree.size_of(("g",)), tree.kind_of(("h",))), (0, None))

    def test_65_drop(self):
        for path in LOST + [()]:
            self.assert_refused(("drop", path), "path")
        self.assert_refused(("drop", ("n",)), "none")
        self.assert_refused(("drop", ("d",)), "filled")
        self.assert_done(("drop", ("f",)), f=None, g=(7,) * 20)
        self.assert_done(("drop", ("e",)), e=None)
        self.assert_done(("drop", ("d", "f")), d=["e"])

    def test_65_keep_and_let(self):
        tree = grown(("keep", "a"), ("keep", "b"))
        self.assert_refused(("keep", "a"), "exists", tree)
        self.assert_refused(("let", "c"), "none", tree)
        tree.do(("keep", "c"))
        self.assert_refused(("keep", "c"), "exists", tree)
        self.assert_refused(("keep", "d"), "many", tree)
        self.assert_refused(("let", "d"), "none", tree)
        self.assertIs(tree.do(("let", "a")), None)
        self.assert_refused(("let", "a"), "none", tree)
        self.assertEqual(tree.kept_names(), ["b", "c"])

    def test_64_chunks_that_come_and_go(self):
        tree = grown(("file", ("f",)))
        steps = [
            (("write", ("f",), 15, [1]), (0,), 16), (("write", ("f",), 31, [1, 1]), (0, 1, 2), 33),
            (("cut", ("f",), 32), (0, 1), 32), (("cut", ("f",), 17), (0, 1), 17), (("cut", ("f",), 96), (0, 1), 96),
            (("write", ("f",), 80, [0]), (0, 1, 5), 96), (("cut", ("f",), 81), (0, 1, 5), 81),
            (("cut", ("f",), 80), (0, 1), 80), (("cut", ("f",), 16), (0,), 16), (("cut", ("f",), 1), (0,), 1),
            (("cut", ("f",), 0), (), 0), (("write", ("f",), 48, [3] * 48), (3, 4, 5), 96),
            (("write", ("f",), 47, [3] * 2), (2, 3, 4, 5), 96),
        ]
        for deed, chunks, size in steps:
            self.assertIs(tree.do(deed), None)
            self.assertEqual((tree.picture()[0][4], tree.size_of(("f",))), (chunks, size), deed)

    def test_64_what_is_cut_away_does_not_come_back(self):
        for size in (0, 1, 15, 16, 17, 31, 32, 48):
            tree = grown(("file", ("f",)), ("write", ("f",), 0, [9] * 48), ("cut", ("f",), size), ("cut", ("f",), 96))
            self.assert_octets(tree.read(("f",)), [9] * size + [0] * (96 - size))

    def test_64_a_write_leaves_the_octets_beside_it(self):
        tree = grown(("file", ("f",)), ("write", ("f",), 0, [9] * 48), ("write", ("f",), 17, (1, 2)))
        self.assert_octets(tree.read(("f",)), [9] * 17 + [1, 2] + [9] * 29)

    def test_70_deeds_together_are_done_one_behind_the_other(self):
        tree = grown(("all", (("dir", ("a",)), ("file", ("a", "b")), ("move", ("a",), ("c",)))))
        self.assertEqual([way[0] for way in tree.picture()], [("c",), ("c", "b")])
        self.assertIs(tree.do(("all", (("write", ("c", "b"), 0, [1]), ("cut", ("c", "b"), 9), ("drop", ("c", "b"))))),
                      None)
        self.assertEqual(tree.listing(("c",)), [])

    def test_70_all_or_none_of_them(self):
        tree = some_tree()
        for deeds, word in (
            ((("file", ("n",)), ("file", ("n",))), "exists"), ((("drop", ("f",)), ("drop", ("f",))), "none"),
            ((("dir", ("n",)), ("cut", ("n",), 1)), "kind"), ((("drop", ("e",)), ("file", ("e", "x"))), "path"),
            ((("file", ("e", "n")), ("drop", ("e",)), ("file", ("no", "way"))), "filled"),
            ((("write", ("f",), 0, [1]), ("write", ("f",), 96, [1])), "long"),
            ((("dir", ("n",)), ("move", ("e",), ("n", "e")), ("move", ("n",), ("n", "e", "n"))), "ring"),
        ):
            self.assert_refused(("all", deeds), word, tree)

    def test_70_the_first_word_is_told(self):
        self.assert_refused(("all", (("drop", ("n",)), ("drop", ("no", "way")))), "none")
        self.assert_refused(("all", (("drop", ("no", "way")), ("drop", ("n",)))), "path")
        four = tuple(("file", (name,)) for name in "wxyz")
        self.assert_refused(("all", four), "large")
        self.assert_refused(("all", four[:3] + (("drop", ("n",)),)), "none")

    def test_70_large(self):
        tree = grown(("file", ("f",)), ("file", ("g",)))
        made = [("file", (name,)) for name in "xyz"]
        self.assert_refused(("all", (made[0], made[1], made[2], ("cut", ("f",), 1))), "large", tree)
        self.assert_refused(("all", (("write", ("f",), 1, [1] * 48), ("write", ("g",), 0, [1]))), "large", tree)
        self.assert_refused(("all", (("write", ("f",), 0, [1] * 48), ("write", ("f",), 48, [1] * 48))), "large", tree)
        for deeds, count in (
            ((made[0], made[1], made[2]), 6),
            ((made[0], made[1], ("write", ("x",), 0, [1])), 5),
            ((("write", ("f",), 0, [1] * 48), ("write", ("f",), 32, [1] * 48)), 6),
            ((("write", ("f",), 0, [1] * 48), ("write", ("g",), 0, [1])), 6),
            ((made[0], ("drop", ("x",)), made[0], ("drop", ("x",))), 3),
            ((("link", ("f",), ("l",)), ("drop", ("l",)), ("link", ("f",), ("l",))), 1),
        ):
            self.assertEqual(len(group(tree, ("all", deeds), 1)), count, deeds)
            self.assertIs(tree.copy().do(("all", deeds)), None)

    def test_70_ids_that_are_used_up(self):
        tree = Tree()
        self.assertIs(tree.do(("all", (("file", ("a",)), ("drop", ("a",)), ("dir", ("a",)), ("drop", ("a",))))), None)
        self.assertEqual((tree.next_id, tree.picture()), (4, ()))
        self.assertEqual(group(tree, ("file", ("a",)), 1)[0].node, 4)

    def test_70_within_an_all_or_by_themselves(self):
        deeds = (("file", ("e", "n")), ("write", ("e", "n"), 3, [4, 5]), ("move", ("e", "n"), ("f",)), ("drop", ("f",)))
        for count in (2, 3, 4):
            together, alone = some_tree(), some_tree()
            self.assertIs(together.do(("all", deeds[:count])), None)
            for deed in deeds[:count]:
                self.assertIs(alone.do(deed), None)
            self.assertEqual((together, together.next_id), (alone, alone.next_id))

    def test_65_wrong_deeds(self):
        tree = some_tree()
        for wrong in [list(deed) for deed in DEEDS] + [("sync",), ("file",), ("file", ["a"]), ("all", (DEEDS[0],))]:
            self.assert_invalid(InvalidDeed, wrong, tree.do, wrong)
        self.assertEqual(tree, some_tree())
