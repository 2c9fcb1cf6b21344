"""Points 5, 9, 10, 61 to 63 and 66 to 69: trees, how they look, and kept trees."""

from onewaybits import tree as module
from onewaybits.errors import InvalidDeed, InvalidName, InvalidPath, NoThing
from onewaybits.tree import Tree, is_deed
from tests.helper import PointTest
from tests.values import ANY_VALUES, NO_NAMES, NO_PATHS

SESSION = """
>>> from onewaybits.tree import Tree, is_deed
>>> tree = Tree()
>>> [tree.do(("dir", ("a",))), tree.do(("file", ("a", "b"))), tree.do(("write", ("a", "b"), 15, [7, 8]))]
[None, None, None]
>>> [tree.do(("link", ("a", "b"), ("c",))), tree.do(("drop", ("a",))), tree.do(("move", ("a",), ("a", "d")))]
[None, 'filled', 'ring']
>>> [tree.kind_of(("c",)), tree.size_of(("c",)), tree.listing(("a",)), tree.read(("a",)), tree.next_id]
['file', 17, ['b'], None, 4]
>>> [tree.do(("cut", ("c",), 1)), tree.do(("keep", "first")), tree.do(("write", ("c",), 0, (9,))), tree.do(("drop", ("a", "b")))]
[None, None, None, None]
>>> [tree.picture(), tree.kept("first").listing(("a",)), tree.kept("first").read(("c",)), tree.do(("let", "last"))]
[((('a',), 'dir', None, ('a',), ()), (('c',), 'file', (9,), ('c',), (0,))), ['b'], (0,), 'none']
>>> [is_deed(("file", ["a"])), tree == tree.copy(), tree == tree.kept("first")]
[False, True, False]
>>> tree.do(("write", ("c",), 0, []))
raises InvalidDeed(('write', ('c',), 0, []))
"""  # noqa: E501
METHODS = ["copy", "do", "kind_of", "size_of", "read", "listing", "picture", "whole", "kept_names", "kept", "__eq__"]


def grown(*deeds):
    """Return a tree behind these deeds, all of which are done."""
    tree = Tree()
    for deed in deeds:
        word = tree.do(deed)
        if word is not None:
            raise AssertionError((deed, word))
    return tree


def some_tree():
    return grown(
        ("dir", ("a",)), ("dir", ("a", "b")), ("file", ("a", "f")), ("write", ("a", "f"), 30, [1, 2, 3]),
        ("link", ("a", "f"), ("a", "b", "g")), ("file", ("z",)), ("keep", "old"), ("cut", ("z",), 96),
    )


class TreeTest(PointTest):

    def test_examples(self):
        self.assert_session(SESSION)

    def test_each_listed_method_is_defined_in_the_class(self):
        for name in METHODS:
            self.assertIn(name, vars(Tree))
        self.assertEqual((Tree.__module__, is_deed.__module__), (module.__name__,) * 2)

    def test_9_arguments_by_name(self):
        tree = Tree()
        self.assertIs(tree.do(deed=("dir", ("a",))), None)
        self.assertEqual((tree.kind_of(path=("a",)), tree.size_of(path=("a",)), tree.read(path=("a",))),
                         ("dir", None, None))
        self.assertEqual(tree.listing(path=()), ["a"])
        self.assertIs(tree.do(deed=("keep", "old")), None)
        self.assertEqual(tree.kept(name="old"), grown(("dir", ("a",))))
        self.assertIs(is_deed(value=("let", "a")), True)

    def test_61_methods_with_a_path(self):
        tree = some_tree()
        before = tree.whole()
        for wrong in NO_PATHS + [["a"], [], "a", ("a", ["b"])]:
            for call in (tree.kind_of, tree.size_of, tree.read, tree.listing):
                self.assert_invalid(InvalidPath, wrong, call, wrong)
        self.assertEqual(tree.whole(), before)

    def test_61_paths_that_lead_to_nothing(self):
        tree = some_tree()
        for path in (("b",), ("a", "a"), ("z", "a"), ("z", "z", "z"), ("a", "f", "a"), ("abcdefgh",) * 70,
                     ("a", "f", "f")):
            self.assertEqual([tree.kind_of(path), tree.size_of(path), tree.read(path), tree.listing(path)], [None] * 4)

    def test_61_the_empty_path_leads_to_the_root(self):
        tree = Tree()
        self.assertEqual([tree.kind_of(()), tree.size_of(()), tree.read(()), tree.listing(())], ["dir", None, None, []])
        self.assertEqual(some_tree().listing(()), ["a", "z"])

    def test_61_names_of_one_and_of_eight_letters(self):
        tree = grown(("dir", ("a",)), ("dir", ("a", "abcdefgh")), ("file", ("a", "abcdefgh", "z")))
        self.assertEqual(tree.kind_of(("a", "abcdefgh", "z")), "file")
        self.assertEqual(tree.listing(("a",)), ["abcdefgh"])

    def test_62_files(self):
        tree = grown(("file", ("a",)))
        self.assertEqual((tree.size_of(("a",)), tree.read(("a",)), tree.picture()[0][4]), (0, (), ()))
        tree.do(("cut", ("a",), 96))
        self.assertEqual((tree.size_of(("a",)), tree.picture()[0][4]), (96, ()))
        self.assert_octets(tree.read(("a",)), [0] * 96)
        tree.do(("write", ("a",), 95, [5]))
        self.assert_octets(tree.read(("a",)), [0] * 95 + [5])
        self.assertEqual(tree.picture()[0][4], (5,))
        tree.do(("write", ("a",), 0, [1] * 48))
        self.assert_octets(tree.read(("a",)), [1] * 48 + [0] * 47 + [5])
        self.assertEqual(tree.picture()[0][4], (0, 1, 2, 5))

    def test_62_a_file_with_several_paths(self):
        tree = some_tree()
        for path in (("a", "f"), ("a", "b", "g")):
            self.assert_octets(tree.read(path), [0] * 30 + [1, 2, 3])
        tree.do(("write", ("a", "b", "g"), 0, [9]))
        self.assertEqual(tree.read(("a", "f"))[0], 9)
        tree.do(("drop", ("a", "f")))
        self.assertEqual(tree.read(("a", "b", "g"))[0], 9)
        tree.do(("drop", ("a", "b", "g")))
        self.assertIs(tree.kind_of(("a", "b", "g")), None)

    def test_63_a_new_tree(self):
        tree = Tree()
        self.assertEqual((tree.next_id, tree.picture(), tree.kept_names(), tree.whole()), (2, (), [], ((), ())))
        self.assertIs(type(tree.next_id), int)

    def test_63_next_id_behind_done_and_refused_deeds(self):
        tree = Tree()
        steps = [
            (("file", ("a",)), 3), (("file", ("a",)), 3), (("dir", ("x", "y")), 3), (("dir", ("b",)), 4),
            (("drop", ("b",)), 4), (("dir", ("b",)), 5), (("link", ("a",), ("c",)), 5), (("write", ("a",), 0, [1]), 5),
            (("move", ("c",), ("d",)), 5), (("cut", ("a",), 0), 5), (("keep", "k"), 5), (("let", "k"), 5),
            (("all", (("file", ("q",)), ("drop", ("q",)))), 6), (("all", (("file", ("q",)), ("file", ("q",)))), 6),
            (("all", (("dir", ("q",)), ("file", ("q", "r")))), 8),
        ]
        for deed, next_id in steps:
            tree.do(deed)
            self.assertEqual(tree.next_id, next_id, deed)

    def test_63_many_nodes(self):
        tree = Tree()
        for k in range(60000):
            self.assertIs(tree.do(("file", ("a",))), None)
            self.assertIs(tree.do(("drop", ("a",))), None)
        self.assertEqual((tree.next_id, tree.picture()), (60002, ()))

    def test_63_deep_paths(self):
        tree = Tree()
        for depth in range(1, 61):
            self.assertIs(tree.do(("dir", ("abcdefgh",) * depth)), None)
        self.assertEqual(len(tree.picture()), 60)
        self.assertEqual(tree.copy(), tree)
        self.assertEqual(tree.do(("move", ("abcdefgh",), ("abcdefgh",) * 60)), "ring")
        self.assertEqual(tree.listing(("abcdefgh",) * 60), [])

    def test_63_copies_part(self):
        deeds = [
            ("write", ("z",), 0, [1]), ("drop", ("z",)), ("file", ("new",)), ("keep", "new"), ("let", "old"),
            ("cut", ("a", "f"), 1), ("move", ("a", "b"), ("c",)), ("link", ("z",), ("y",)),
            ("all", (("drop", ("z",)), ("dir", ("z",)))),
        ]
        for deed in deeds:
            for changed, other in ((0, 1), (1, 0)):
                pair = [some_tree()]
                pair.append(pair[0].copy())
                self.assertIs(type(pair[1]), Tree)
                self.assertEqual((pair[0].next_id, pair[0].whole()), (pair[1].next_id, pair[1].whole()))
                self.assertIs(pair[changed].do(deed), None)
                self.assertEqual((pair[other].whole(), pair[other].next_id), (some_tree().whole(), some_tree().next_id))
                self.assertFalse(pair[0] == pair[1])

    def test_63_a_copy_goes_on_alike(self):
        tree = some_tree()
        copy = tree.copy()
        for deed in (("file", ("n",)), ("keep", "k"), ("let", "old"), ("drop", ("a",)), ("write", ("z",), 1, [3])):
            self.assertEqual(tree.do(deed), copy.do(deed))
        self.assertEqual((tree == copy, tree.next_id), (True, copy.next_id))

    def test_66_looking(self):
        tree = some_tree()
        self.assertEqual([tree.kind_of(("a",)), tree.kind_of(("a", "f")), tree.kind_of(("q",))], ["dir", "file", None])
        self.assertEqual([tree.size_of(("a",)), tree.size_of(("a", "f")), tree.size_of(("q",))], [None, 33, None])
        self.assertEqual([tree.read(("a",)), tree.read(("q",))], [None, None])
        self.assertEqual([tree.listing(("a",)), tree.listing(("a", "f")), tree.listing(("q",))],
                         [["b", "f"], None, None])
        self.assertEqual(tree.listing(("a", "b")), ["g"])

    def test_66_listings_are_new_and_ascending(self):
        tree = grown(*[("file", (name,)) for name in ("b", "ab", "aa", "a", "c", "ba")])
        self.assertEqual(tree.listing(()), ["a", "aa", "ab", "b", "ba", "c"])
        tree.listing(()).clear()
        self.assertEqual(len(tree.listing(())), 6)

    def test_67_pictures(self):
        tree = some_tree()
        octets = (0,) * 30 + (1, 2, 3)
        self.assertEqual(tree.picture(), (
            (("a",), "dir", None, ("a",), ()),
            (("a", "b"), "dir", None, ("a", "b"), ()),
            (("a", "b", "g"), "file", octets, ("a", "b", "g"), (1, 2)),
            (("a", "f"), "file", octets, ("a", "b", "g"), (1, 2)),
            (("z",), "file", (0,) * 96, ("z",), ()),
        ))
        self.assertEqual(grown(("file", ("b",)), ("link", ("b",), ("a",))).picture(), (
            (("a",), "file", (), ("a",), ()), (("b",), "file", (), ("a",), ()),
        ))

    def test_67_ids_are_not_told(self):
        first = grown(("file", ("a",)), ("dir", ("b",)))
        second = grown(("file", ("x",)), ("drop", ("x",)), ("dir", ("b",)), ("file", ("a",)))
        self.assertEqual(first.picture(), second.picture())
        self.assertTrue(first == second)

    def test_68_whole(self):
        tree = some_tree()
        tree.do(("keep", "even"))
        tree.do(("drop", ("z",)))
        whole = tree.whole()
        self.assertIs(type(whole), tuple)
        self.assertEqual(whole[0], tree.picture())
        self.assertEqual(whole[1], (("even", tree.kept("even").picture()), ("old", tree.kept("old").picture())))

    def test_68_equal_trees(self):
        tree = some_tree()
        unlike = [
            ("file", ("n",)), ("write", ("z",), 95, [0]), ("write", ("z",), 95, [1]), ("cut", ("z",), 95),
            ("keep", "new"), ("let", "old"), ("drop", ("a", "f")), ("move", ("z",), ("y",)),
        ]
        for deed in unlike:
            other = some_tree()
            self.assertTrue(tree == other)
            self.assertFalse(tree != other)
            self.assertIs(other.do(deed), None)
            self.assertFalse(tree == other)
            self.assertTrue(tree != other)

    def test_68_two_files_are_not_one_with_two_paths(self):
        first = grown(("file", ("a",)), ("file", ("b",)))
        second = grown(("file", ("a",)), ("link", ("a",), ("b",)))
        self.assertFalse(first == second)

    def test_68_kept_trees_under_another_name(self):
        self.assertFalse(grown(("keep", "a")) == grown(("keep", "b")))
        self.assertFalse(grown(("keep", "a"), ("file", ("f",))) == grown(("file", ("f",)), ("keep", "a")))

    def test_68_no_other_value(self):
        for value in ANY_VALUES:
            if not isinstance(value, Tree):
                self.assertFalse(Tree() == value)
                self.assertTrue(Tree() != value)
        self.assertFalse(some_tree() == some_tree().whole())

    def test_69_kept_trees_stay(self):
        tree = some_tree()
        old = tree.kept("old").picture()
        self.assertEqual(tree.kept("old").size_of(("z",)), 0)
        for deed in (("drop", ("z",)), ("write", ("a", "f"), 0, [1]), ("cut", ("a", "b", "g"), 2), ("keep", "new"),
                     ("drop", ("a", "f")), ("drop", ("a", "b", "g")), ("drop", ("a", "b")), ("drop", ("a",)),
                     ("let", "new")):
            self.assertIs(tree.do(deed), None)
            self.assertEqual(tree.kept("old").picture(), old)
        self.assertEqual((tree.picture(), tree.kept_names()), ((), ["old"]))

    def test_69_keep_and_let_change_nothing_else(self):
        tree = some_tree()
        shown, next_id = tree.picture(), tree.next_id
        for deed in (("keep", "new"), ("let", "old"), ("let", "new")):
            self.assertIs(tree.do(deed), None)
            self.assertEqual((tree.picture(), tree.next_id), (shown, next_id))

    def test_69_a_kept_tree_keeps_none(self):
        tree = some_tree()
        tree.do(("keep", "new"))
        self.assertEqual(tree.kept_names(), ["new", "old"])
        self.assertEqual([tree.kept("new").kept_names(), tree.kept("old").kept_names()], [[], []])
        self.assertEqual(tree.kept("new").picture(), tree.picture())
        self.assertFalse(tree.kept("new") == tree)

    def test_69_kept_gives_a_new_tree_with_the_next_id_of_the_tree(self):
        tree = grown(("file", ("a",)), ("keep", "old"), ("file", ("b",)), ("file", ("c",)))
        kept = tree.kept("old")
        self.assertEqual((type(kept), kept.next_id), (Tree, 5))
        self.assertIs(kept.do(("file", ("n",))), None)
        self.assertIs(kept.do(("write", ("a",), 0, [1])), None)
        self.assertEqual((kept.next_id, tree.next_id, tree.kept("old").next_id), (6, 5, 5))
        self.assertEqual(tree.kept("old"), grown(("file", ("a",))))
        self.assertIsNot(tree.kept("old"), tree.kept("old"))

    def test_69_three_kept_trees_and_a_fourth(self):
        tree = Tree()
        for k, name in enumerate(["b", "c", "a"]):
            tree.do(("file", (name,)))
            self.assertIs(tree.do(("keep", name)), None)
        self.assertEqual(tree.kept_names(), ["a", "b", "c"])
        self.assertEqual(tree.do(("keep", "d")), "many")
        self.assertEqual(tree.do(("keep", "b")), "exists")
        self.assertEqual([len(tree.kept(name).picture()) for name in "bca"], [1, 2, 3])
        self.assertIs(tree.do(("let", "c")), None)
        self.assertIs(tree.do(("keep", "d")), None)
        self.assertEqual(tree.kept_names(), ["a", "b", "d"])

    def test_69_wrong_names(self):
        tree = some_tree()
        for wrong in NO_NAMES:
            self.assert_invalid(InvalidName, wrong, tree.kept, wrong)
        for name in ("a", "olds", "new"):
            with self.assertRaises(NoThing) as caught:
                tree.kept(name)
            self.assertEqual(vars(caught.exception), {"name": name})

    def test_10_a_wrong_deed_changes_nothing(self):
        tree = some_tree()
        for wrong in ANY_VALUES + [("write", ("z",), 0, []), ["file", ("b",)]]:
            self.assert_invalid(InvalidDeed, wrong, tree.do, wrong)
        self.assertEqual((tree, tree.next_id), (some_tree(), some_tree().next_id))

    def test_9_no_list_is_kept(self):
        tree, octets = grown(("file", ("a",))), [1, 2, 3]
        tree.do(("write", ("a",), 0, octets))
        octets[0] = 9
        self.assert_octets(tree.read(("a",)), [1, 2, 3])
        self.assertEqual(octets, [9, 2, 3])
        tree.kept_names().append("x")
        self.assertEqual(tree.kept_names(), [])
