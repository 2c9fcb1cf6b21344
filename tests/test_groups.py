"""Points 81, 82 and 85: groups and the measure."""

from onewaybits import groups as module
from onewaybits.errors import InvalidDeed, InvalidNumber, InvalidTree
from onewaybits.groups import group, keys, living, tree_of
from onewaybits.records import Chunk, Keep, Name, Node
from onewaybits.tree import Tree
from tests.helper import NO_INTS, PointTest, dice
from tests.model import some_deed
from tests.test_do import DEEDS
from tests.test_tree import grown
from tests.values import ANY_VALUES

SESSION = """
>>> from onewaybits.groups import group, keys, living, tree_of
>>> from onewaybits.records import Name, Node
>>> from onewaybits.tree import Tree
>>> tree = Tree()
>>> first = group(tree, ("file", ("a",)), 7)
>>> first == [Node(7, 0, 2, 2, 1, 0, 0), Name(7, 1, 2, 1, "a", 2)]
True
>>> tree.do(("file", ("a",)))
>>> keep = group(tree, ("keep", "old"), 8)
>>> last = group(tree, ("write", ("a",), 15, (9, 8)), 9)
>>> [last[0].key(), last[1].octets[:2], last[2].size, last[2].chunks, last[2].of]
[('chunk', 2, 0), (8, 0), 17, 3, 3]
>>> again = tree_of(last + keep + first, 3)
>>> [again.read(("a",))[14:], again.kept("old").size_of(("a",)), living(again), living(tree)]
[(0, 9, 8), 0, 7, 2]
>>> [keys(again), group(tree, ("drop", ("b",)), 9)]
[[('chunk', 2, 0), ('chunk', 2, 1), ('keep', 'old'), ('name', 1, 'a'), ('node', 2)], []]
>>> tree_of(first, 2)
raises InvalidNumber(2)
"""
MOST = 2 ** 32 - 1
NO_TREES = [value for value in ANY_VALUES if not isinstance(value, Tree)]


def some_tree():
    """Return a tree: 2 and 5 are the directories a and a/b, 3 the file a/f and g, 4 the file h of one chunk."""
    return grown(
        ("dir", ("a",)), ("file", ("a", "f")), ("file", ("h",)), ("dir", ("a", "b")), ("link", ("a", "f"), ("g",)),
        ("write", ("a", "f"), 10, [7] * 30), ("write", ("h",), 0, [5] * 16),
    )


class GroupsTest(PointTest):

    def assert_group(self, deed, *expected, tree=None):
        """Check the group of a deed, which is told by the classes and what the records tell."""
        tree = tree or some_tree()
        before, next_id = tree.whole(), tree.next_id
        for number in (1, 300, MOST):
            records = group(tree, deed, number)
            self.assertIs(type(records), list)
            self.assertEqual(records, [told[0](number, at, len(expected), *told[1:]) for at,
                                       told in enumerate(expected)])
        self.assertEqual((tree.whole(), tree.next_id), (before, next_id))
        self.assertIs(tree.do(deed), None)

    def test_examples(self):
        self.assert_session(SESSION)

    def test_each_function_is_defined_in_its_file(self):
        for name in ("group", "keys", "living", "tree_of"):
            self.assertEqual(getattr(module, name).__module__, "onewaybits.groups")

    def test_9_arguments_by_name(self):
        tree = Tree()
        records = group(number=3, deed=("dir", ("a",)), tree=tree)
        self.assertEqual(records, [Node(3, 0, 2, 2, 2, 0, 0), Name(3, 1, 2, 1, "a", 2)])
        self.assertEqual((keys(tree=tree), living(tree=tree), tree_of(next_id=3, records=records).next_id), ([], 0, 3))

    def test_81_file_and_dir(self):
        self.assert_group(("file", ("n",)), (Node, 6, 1, 0, 0), (Name, 1, "n", 6))
        self.assert_group(("dir", ("a", "b", "n")), (Node, 6, 2, 0, 0), (Name, 5, "n", 6))

    def test_81_write(self):
        chunk = [0] * 10 + [7] * 6
        self.assert_group(("write", ("g",), 0, [1]), (Chunk, 3, 0, [1] + chunk[1:]), (Node, 3, 1, 40, 7))
        self.assert_group(("write", ("g",), 15, (1, 2)), (Chunk, 3, 0, chunk[:15] + [1]), (Chunk, 3, 1, [2] + [7] * 15),
                          (Node, 3, 1, 40, 7))
        self.assert_group(("write", ("h",), 47, [1] * 48), (Chunk, 4, 2, [0] * 15 + [1]), (Chunk, 4, 3, [1] * 16),
                          (Chunk, 4, 4, [1] * 16), (Chunk, 4, 5, [1] * 15 + [0]), (Node, 4, 1, 95, 61))
        self.assert_group(("write", ("h",), 48, [1] * 48), (Chunk, 4, 3, [1] * 16), (Chunk, 4, 4, [1] * 16),
                          (Chunk, 4, 5, [1] * 16), (Node, 4, 1, 96, 57))

    def test_81_what_was_there_before_is_told_too(self):
        self.assert_group(("write", ("h",), 3, [5]), (Chunk, 4, 0, [5] * 16), (Node, 4, 1, 16, 1))
        self.assert_group(("cut", ("h",), 16), (Node, 4, 1, 16, 1))
        self.assert_group(("write", ("h",), 16, [0]), (Chunk, 4, 1, [0] * 16), (Node, 4, 1, 17, 3))

    def test_81_cut(self):
        self.assert_group(("cut", ("g",), 40), (Node, 3, 1, 40, 7))
        self.assert_group(("cut", ("g",), 96), (Node, 3, 1, 96, 7))
        self.assert_group(("cut", ("g",), 39), (Chunk, 3, 2, [7] * 7 + [0] * 9), (Node, 3, 1, 39, 7))
        self.assert_group(("cut", ("g",), 33), (Chunk, 3, 2, [7] + [0] * 15), (Node, 3, 1, 33, 7))
        self.assert_group(("cut", ("g",), 32), (Node, 3, 1, 32, 3))
        self.assert_group(("cut", ("g",), 31), (Chunk, 3, 1, [7] * 15 + [0]), (Node, 3, 1, 31, 3))
        self.assert_group(("cut", ("g",), 10), (Chunk, 3, 0, [0] * 16), (Node, 3, 1, 10, 1))
        self.assert_group(("cut", ("g",), 0), (Node, 3, 1, 0, 0))

    def test_81_a_cut_of_zeros_has_no_chunk(self):
        tree = grown(("file", ("f",)), ("write", ("f",), 0, [1, 0, 0, 0]), ("write", ("f",), 40, [0] * 9))
        self.assert_group(("cut", ("f",), 45), (Node, 2, 1, 45, 5), tree=tree.copy())
        self.assert_group(("cut", ("f",), 20), (Node, 2, 1, 20, 1), tree=tree.copy())
        self.assert_group(("cut", ("f",), 1), (Node, 2, 1, 1, 1), tree=tree.copy())
        self.assert_group(("cut", ("f",), 16), (Node, 2, 1, 16, 1), tree=tree.copy())

    def test_81_link(self):
        self.assert_group(("link", ("g",), ("a", "b", "n")), (Name, 5, "n", 3))

    def test_81_move(self):
        self.assert_group(("move", ("g",), ("a", "n")), (Name, 1, "g", 0), (Name, 2, "n", 3))
        self.assert_group(("move", ("a",), ("n",)), (Name, 1, "a", 0), (Name, 1, "n", 2))
        self.assert_group(("move", ("h",), ("g",)), (Name, 1, "h", 0), (Name, 1, "g", 4))
        self.assert_group(("move", ("g",), ("h",)), (Name, 1, "g", 0), (Name, 1, "h", 3), (Node, 4, 0, 0, 0))
        tree = some_tree()
        tree.do(("dir", ("e",)))
        self.assert_group(("move", ("a",), ("e",)), (Name, 1, "a", 0), (Name, 1, "e", 2), (Node, 6, 0, 0, 0), tree=tree)

    def test_81_drop(self):
        self.assert_group(("drop", ("g",)), (Name, 1, "g", 0))
        self.assert_group(("drop", ("a", "f")), (Name, 2, "f", 0))
        self.assert_group(("drop", ("h",)), (Name, 1, "h", 0), (Node, 4, 0, 0, 0))
        self.assert_group(("drop", ("a", "b")), (Name, 2, "b", 0), (Node, 5, 0, 0, 0))
        tree = some_tree()
        tree.do(("drop", ("g",)))
        self.assert_group(("drop", ("a", "f")), (Name, 2, "f", 0), (Node, 3, 0, 0, 0), tree=tree)

    def test_81_keep_and_let(self):
        self.assert_group(("keep", "old"), (Keep, "old", True))
        tree = some_tree()
        tree.do(("keep", "old"))
        self.assert_group(("let", "old"), (Keep, "old", False), tree=tree)

    def test_81_all(self):
        self.assert_group(("all", (("file", ("n",)), ("dir", ("m",)))), (Node, 6, 1, 0, 0), (Name, 1, "n", 6),
                          (Node, 7, 2, 0, 0), (Name, 1, "m", 7))
        self.assert_group(("all", (("file", ("n",)), ("write", ("n",), 0, [1]))), (Name, 1, "n", 6),
                          (Chunk, 6, 0, [1] + [0] * 15), (Node, 6, 1, 1, 1))
        self.assert_group(("all", (("file", ("n",)), ("drop", ("n",)))), (Name, 1, "n", 0), (Node, 6, 0, 0, 0))
        self.assert_group(("all", (("move", ("h",), ("n",)), ("move", ("n",), ("h",)))), (Name, 1, "n", 0),
                          (Name, 1, "h", 4))
        self.assert_group(("all", (("write", ("h",), 0, [1]), ("write", ("g",), 0, [2]), ("write", ("h",), 1, [3]))),
                          (Chunk, 3, 0, [2] + [0] * 9 + [7] * 6), (Node, 3, 1, 40, 7), (Chunk, 4, 0, [1, 3] + [5] * 14),
                          (Node, 4, 1, 16, 1))
        self.assert_group(("all", (("write", ("h",), 16, [1]), ("drop", ("h",)))), (Chunk, 4, 1, [1] + [0] * 15),
                          (Name, 1, "h", 0), (Node, 4, 0, 0, 0))

    def test_81_refused_deeds_have_no_records(self):
        tree = some_tree()
        for deed in (("file", ("a",)), ("dir", ()), ("write", ("g",), 96, [1]), ("cut", ("a",), 1),
                     ("link", ("n",), ("m",)),
                     ("move", ("a",), ("a", "n")), ("drop", ("a",)), ("let", "old"), ("all", (("drop", ("h",)),) * 2),
                     ("all", tuple(("dir", (name,)) for name in "wxyz"))):
            self.assertEqual(group(tree, deed, 1), [])
            self.assertIsNot(tree.do(deed), None)
            self.assert_invalid(InvalidNumber, 0, group, tree, deed, 0)

    def test_81_wrong_arguments(self):
        tree = some_tree()
        for wrong in NO_TREES:
            self.assert_invalid(InvalidTree, wrong, group, wrong, None, None)
            self.assert_invalid(InvalidTree, wrong, keys, wrong)
            self.assert_invalid(InvalidTree, wrong, living, wrong)
        for wrong in ANY_VALUES + [("sync",), ["drop", ("h",)], ("drop", ["h"]), ("write", ("h",), 0, [])]:
            self.assert_invalid(InvalidDeed, wrong, group, tree, wrong, 0)
        for wrong in NO_INTS + [0, -1, 2 ** 32, 2 ** 70]:
            self.assert_invalid(InvalidNumber, wrong, group, tree, ("drop", ("h",)), wrong)
            self.assert_invalid(InvalidNumber, wrong, group, tree, ("drop", ("n",)), wrong)

    def test_81_each_group_has_up_to_six_records_with_unlike_keys(self):
        counts = {}
        for seed in range(80):
            source = dice(seed)
            tree = Tree()
            for number in range(1, 40):
                deed = some_deed(source, tree)
                records = group(tree, deed, number)
                for at, record in enumerate(records):
                    self.assertEqual((record.deed, record.at, record.of, record.until), (number, at, len(records), 0))
                self.assertEqual(len({record.key() for record in records}), len(records))
                counts[len(records)] = True
                tree.do(deed)
        self.assertEqual(sorted(counts)[:6], [0, 1, 2, 3, 4, 5])
        self.assertLessEqual(max(counts), 6)

    def test_82_the_measure_of_empty_and_full_trees(self):
        self.assertEqual((keys(Tree()), living(Tree())), ([], 0))
        self.assertEqual(keys(some_tree()), [
            ("chunk", 3, 0), ("chunk", 3, 1), ("chunk", 3, 2), ("chunk", 4, 0), ("name", 1, "a"), ("name", 1, "g"),
            ("name", 1, "h"), ("name", 2, "b"), ("name", 2, "f"), ("node", 2), ("node", 3), ("node", 4), ("node", 5),
        ])
        self.assertEqual(living(some_tree()), 13)
        full = grown(("file", ("f",)), ("write", ("f",), 0, [1] * 48), ("write", ("f",), 48, [1] * 48))
        self.assertEqual((len(keys(full)), living(full)), (8, 8))

    def test_82_the_measure_of_kept_trees(self):
        tree = some_tree()
        tree.do(("keep", "old"))
        self.assertEqual((living(tree), len(keys(tree)), ("keep", "old") in keys(tree)), (27, 14, True))
        self.assertEqual((living(tree.kept("old")), keys(tree.kept("old"))), (13, keys(some_tree())))
        tree.do(("drop", ("h",)))
        self.assertEqual((living(tree), len(keys(tree))), (24, 11))
        tree.do(("keep", "new"))
        self.assertEqual((living(tree), len(keys(tree))), (11 + 1 + 13 + 10, 12))
        tree.do(("let", "old"))
        self.assertEqual((living(tree), len(keys(tree))), (11 + 10, 11))
        self.assertEqual(living(grown(("keep", "a"), ("keep", "b"), ("keep", "c"))), 3)

    def test_82_what_deeds_add(self):
        for seed in range(60):
            source = dice(82 + seed)
            tree = Tree()
            for _ in range(50):
                deed = some_deed(source, tree)
                before, chunks = tree.copy(), [key for key in keys(tree) if key[0] == "chunk"]
                if tree.do(deed) is None and deed[0] != "all":
                    added = living(tree) - living(before)
                    new = [key for key in keys(tree) if key[0] == "chunk" and key not in chunks]
                    due = {"file": 2, "dir": 2, "link": 1, "write": len(new),
                           "keep": 1 + len(keys(before)) - len(before.kept_names())}
                    if deed[0] in due:
                        self.assertEqual(added, due[deed[0]])
                        self.assertLessEqual(len(new), 4)
                    else:
                        self.assertLessEqual(added, 0)

    def test_82_results_are_new(self):
        tree = some_tree()
        keys(tree).clear()
        group(tree, ("drop", ("h",)), 1).clear()
        self.assertEqual((len(keys(tree)), len(group(tree, ("drop", ("h",)), 1))), (13, 2))

    def test_85_the_next_deed(self):
        for seed in range(60):
            source = dice(85 + seed)
            tree, told, number = Tree(), [], 0
            for _ in range(40):
                number += source.choice([1, 1, 5, 300])
                deed = some_deed(source, tree)
                told += group(tree, deed, number)
                tree.do(deed)
                again = tree_of(told, tree.next_id)
                self.assertEqual((again, again.next_id, keys(again)), (tree, tree.next_id, keys(tree)))
                for other in DEEDS[:6] + [some_deed(source, tree) for _ in range(3)]:
                    self.assertEqual(group(again, other, number + 1), group(tree, other, number + 1))
