"""Points 83, 84 and 86: which records of a list tell a tree, now and in kept ones, and which lists tell none."""

from onewaybits.errors import InvalidNumber, InvalidRecords
from onewaybits.groups import group, keys, living, tree_of
from onewaybits.records import Chunk, Head, Keep, Name, Node, Seal, moved
from onewaybits.tree import Tree
from onewaybits.versions import needed
from tests.helper import NO_INTS, PointTest, dice
from tests.model import some_deed
from tests.plain import ids_of, is_in_order, plain_needed, thinned
from tests.values import ANY_VALUES

ZEROS = [0] * 16


def node(deed, number, what=1, size=0, chunks=0, until=0):
    return Node(deed, 0, 0 if until else 1, number, what, size, chunks, until)


def name(deed, directory, word, number, until=0):
    return Name(deed, 0, 0 if until else 1, directory, word, number, until)


def chunk(deed, number, index, octets, until=0):
    return Chunk(deed, 0, 0 if until else 1, number, index, octets, until)


def keep(deed, word, is_kept=True, until=0):
    return Keep(deed, 0, 0 if until else 1, word, is_kept, until)


def file_at(deed, number, word, directory=1):
    return [node(deed, number), name(deed, directory, word, number)]


def directory_at(deed, number, word, directory=1):
    return [node(deed, number, 2), name(deed, directory, word, number)]


def history(source, count=30):
    """Return the tree behind some deeds, and the list of the records of their groups."""
    tree, told, number = Tree(), [], 0
    for _ in range(count):
        number += source.choice([1, 1, 2, 9])
        deed = some_deed(source, tree)
        told += group(tree, deed, number)
        tree.do(deed)
    return tree, told


class VersionsTest(PointTest):

    def assert_told(self, records, *paths, next_id=100):
        """Check which paths the tree that records tell has."""
        tree = tree_of(records, next_id)
        self.assertEqual(tree.next_id, next_id)
        self.assertEqual(["/".join(way[0]) for way in tree.picture()], list(paths))
        return tree

    def assert_no_tree(self, records):
        self.assert_invalid(InvalidRecords, records, tree_of, records, 100)
        self.assert_invalid(InvalidRecords, records, tree_of, records, None)
        reverse = tuple(reversed(records))
        self.assert_invalid(InvalidRecords, reverse, tree_of, reverse, 100)

    def test_84_no_records_tell_the_empty_tree(self):
        for records in ([], ()):
            tree = self.assert_told(records, next_id=2)
            self.assertTrue(tree == Tree())
            self.assertEqual(needed(records), [])

    def test_83_the_greatest_deed_is_selected_now(self):
        old, new = name(3, 1, "a", 2), name(9, 1, "a", 0)
        again = name(9, 1, "b", 2)
        for records in ([node(3, 2), old, new, again], [again, new, old, node(3, 2)]):
            self.assert_told(records, "b")
        self.assert_told([node(3, 2), old, name(9, 1, "b", 0)], "a")

    def test_83_of_several_with_this_deed_the_last_one_in_the_list(self):
        first, second = node(3, 2, size=5), node(3, 2, size=7)
        here = name(3, 1, "a", 2)
        self.assertEqual(tree_of([first, second, here], 3).size_of(("a",)), 7)
        self.assertEqual(tree_of([second, here, first], 3).size_of(("a",)), 5)
        self.assertEqual(tree_of([second, here, first, node(2, 2, size=9)], 3).size_of(("a",)), 5)
        self.assertEqual(needed([first, second, here]), [1, 2])

    def test_83_records_with_an_until_are_not_for_now(self):
        self.assert_told([node(3, 2), name(3, 1, "a", 2, 9), name(4, 1, "b", 2)], "b")
        self.assert_no_tree([node(3, 2), name(3, 1, "a", 2, 2 ** 32 - 1)])
        self.assert_told([node(3, 2, until=9), name(3, 1, "a", 2, 9)])
        # The newer one has an until, so the older one is selected for now.
        self.assert_told([node(3, 2), name(3, 1, "a", 2), name(8, 1, "a", 0, 9)], "a")

    def test_83_versions_at_below_and_above_a_record(self):
        base = [node(3, 2), name(3, 1, "a", 2), keep(5, "old")]
        for deed, kept in ((4, ("b",)), (5, ("b",)), (6, ())):
            records = base + [node(deed, 3), name(deed, 1, "b", 3)]
            tree = self.assert_told(records, "a", "b")
            self.assertEqual(tree.kept("old").listing(()), ["a"] + list(kept))
        for until, kept in ((4, ()), (5, ()), (6, ("b",))):
            records = base + [node(3, 3, until=until), name(3, 1, "b", 3, until)]
            tree = self.assert_told(records, "a")
            self.assertEqual(tree.kept("old").listing(()), ["a"] + list(kept))
            self.assertEqual(needed(records), [0, 1, 2, 3, 4] if kept else [0, 1, 2])

    def test_83_what_is_let_go_or_kept_anew_has_no_version(self):
        records = [node(3, 2), name(3, 1, "a", 2), keep(5, "old"), name(6, 1, "a", 0), node(6, 2, 0)]
        self.assertEqual(tree_of(records, 3).kept_names(), ["old"])
        self.assertEqual(needed(records), [0, 1, 2])
        gone = records + [keep(7, "old", False)]
        self.assertEqual((tree_of(gone, 3).kept_names(), needed(gone)), ([], []))
        anew = gone + [keep(8, "old")]
        self.assertEqual((tree_of(anew, 3).kept("old").picture(), needed(anew)), ((), [6]))
        # A Keep that is for a past version alone keeps nothing.
        past = [node(3, 2), name(3, 1, "a", 2), keep(5, "old", True, 9)]
        self.assertEqual((tree_of(past, 3).kept_names(), needed(past)), ([], [0, 1]))

    def test_83_two_keeps_of_one_deed(self):
        records = file_at(3, 2, "a") + [keep(5, "old"), keep(5, "even"), name(6, 1, "a", 0), node(6, 2, 0)]
        tree = tree_of(records, 3)
        self.assertEqual((tree.kept_names(), tree.listing(())), (["even", "old"], []))
        self.assertEqual([tree.kept("even").listing(()), tree.kept("old").listing(())], [["a"], ["a"]])

    def test_83_a_chunk_is_there_if_its_node_tells_it(self):
        records = [name(3, 1, "a", 2), node(3, 2, size=20, chunks=2), chunk(3, 2, 1, [9] * 4 + [0] * 12),
                   chunk(3, 2, 0, [7] * 16)]
        tree = tree_of(records, 3)
        self.assert_octets(tree.read(("a",)), [0] * 16 + [9] * 4)
        self.assertEqual((tree.picture()[0][4], needed(records)), ((1,), [0, 1, 2]))
        lone = [chunk(3, 5, 0, [7] * 16)]
        self.assertEqual((tree_of(lone, 6).picture(), needed(lone)), ((), []))

    def test_83_chunks_of_a_kept_file(self):
        records = [
            name(3, 1, "a", 2), node(3, 2, size=16, chunks=1), chunk(3, 2, 0, [7] * 16), keep(4, "old"),
            chunk(5, 2, 0, [8] * 16), keep(6, "even"), node(7, 2, size=0),
        ]
        tree = tree_of(records, 3)
        self.assertEqual([tree.read(("a",)), tree.kept("old").read(("a",)), tree.kept("even").read(("a",))],
                         [(), (7,) * 16, (8,) * 16])
        self.assertEqual(needed(records), [0, 1, 2, 3, 4, 5, 6])
        self.assertEqual(needed(records + [keep(8, "old", False)]), [0, 1, 4, 5, 6])

    def test_83_what_is_needed_as_told_anew(self):
        for seed in range(60):
            source = dice(83 + seed)
            _, told = history(source)
            source.shuffle(told)
            told = told[:source.randrange(len(told) + 1)]
            for place in range(len(told)):
                if source.random() < 0.2:
                    told[place] = moved(told[place], told[place].deed + source.randrange(1, 60))
            self.assertEqual(needed(told), plain_needed(told))

    def test_84_trees_with_directories(self):
        records = directory_at(1, 2, "a") + directory_at(1, 3, "b", 2) + file_at(1, 4, "c", 3)
        tree = self.assert_told(records, "a", "a/b", "a/b/c")
        self.assertEqual(tree.kind_of(("a", "b")), "dir")
        self.assert_told(records[::-1], "a", "a/b", "a/b/c")
        self.assertEqual(keys(tree), sorted([record.key() for record in records]))

    def test_84_a_name_is_in_a_directory_that_is_there(self):
        self.assert_no_tree(file_at(1, 2, "a", 3))
        self.assert_no_tree(file_at(1, 2, "a") + [name(1, 2, "b", 2)])
        self.assert_no_tree(file_at(1, 2, "a") + file_at(1, 3, "b", 2))
        self.assert_no_tree(directory_at(1, 2, "a") + file_at(1, 3, "b", 2) + [node(2, 2, 0), name(2, 1, "a", 0)])

    def test_84_a_name_leads_to_a_node_that_is_there(self):
        self.assert_no_tree([name(1, 1, "a", 2)])
        self.assert_no_tree(file_at(1, 2, "a") + [node(2, 2, 0)])
        self.assert_no_tree(file_at(1, 2, "a") + [name(2, 1, "b", 3)])

    def test_84_a_name_leads_to_each_node_and_just_one_to_a_directory(self):
        self.assert_no_tree([node(1, 2)])
        self.assert_no_tree([node(1, 2, 2)])
        self.assert_no_tree(file_at(1, 2, "a") + [name(2, 1, "a", 0)])
        self.assert_told(file_at(1, 2, "a") + [name(1, 1, "b", 2)], "a", "b")
        self.assert_no_tree(directory_at(1, 2, "a") + [name(1, 1, "b", 2)])
        self.assert_no_tree(directory_at(1, 2, "a") + [name(1, 2, "b", 2)])

    def test_84_the_way_up_leads_to_the_root(self):
        self.assert_no_tree(directory_at(1, 2, "a", 2))
        self.assert_no_tree(directory_at(1, 2, "a", 3) + directory_at(1, 3, "b", 2))
        ring = directory_at(1, 2, "a", 3) + directory_at(1, 3, "b", 4) + directory_at(1, 4, "c", 2)
        self.assert_no_tree(ring)
        self.assert_no_tree(ring + file_at(1, 5, "f", 2) + file_at(1, 6, "f"))
        chain = [record for k in range(2, 62) for record in directory_at(1, k, "a", k - 1)]
        self.assertEqual(tree_of(chain, 62).listing(("a",) * 59), ["a"])
        self.assertEqual(tree_of(chain[::-1], 62).listing(("a",) * 60), [])

    def test_84_each_chunk_that_a_file_has_is_there(self):
        told = [name(1, 1, "a", 2), node(1, 2, size=40, chunks=5), chunk(1, 2, 0, [1] * 16),
                chunk(1, 2, 2, [1] * 8 + [0] * 8)]
        self.assert_told(told, "a")
        for gone in (2, 3):
            self.assert_no_tree(told[:gone] + told[gone + 1:])
        self.assert_no_tree(told[:3] + [chunk(1, 2, 2, [1] * 8 + [0] * 8, 9)])
        self.assert_no_tree(told[:3] + [chunk(1, 3, 2, [1] * 8 + [0] * 8), chunk(1, 2, 1, ZEROS)])

    def test_84_octets_from_the_size_on_are_0(self):
        for size in (1, 7, 15, 16, 17, 95, 96):
            index, left = (size - 1) // 16, (size - 1) % 16 + 1
            told = [name(1, 1, "a", 2), node(1, 2, size=size, chunks=2 ** index)]
            self.assert_told(told + [chunk(1, 2, index, [9] * left + [0] * (16 - left))], "a")
            if left < 16:
                self.assert_no_tree(told + [chunk(1, 2, index, [9] * left + [1] + [0] * (15 - left))])
                self.assert_no_tree(told + [chunk(1, 2, index, [0] * 15 + [1])])
        # In a chunk that is not there they are not asked.
        self.assert_told([name(1, 1, "a", 2), node(1, 2, size=1), chunk(1, 2, 0, [9] * 16)], "a")

    def test_84_in_each_version(self):
        good = file_at(2, 2, "a")
        for bad in (name(4, 1, "b", 3), node(4, 5), node(4, 2, 0), name(4, 1, "a", 0), node(4, 2, size=1, chunks=1)):
            healed = [moved(bad, 9)]
            self.assert_told(good + healed, "a")
            for version in (4, 8):
                self.assert_no_tree(good + healed + [keep(version, "old")])
            for version in (3, 9):
                self.assert_told(good + healed + [keep(version, "old")], "a")
            self.assert_told(good + healed + [keep(4, "old"), keep(5, "old", False)], "a")
            self.assert_no_tree(good + healed + [keep(3, "old"), keep(9, "even"), keep(8, "last")])

    def test_84_at_most_three_keeps(self):
        keeps = [keep(deed, word) for deed, word in enumerate(["a", "b", "c", "d"], 3)]
        self.assertEqual(tree_of(keeps[:3], 2).kept_names(), ["a", "b", "c"])
        self.assert_no_tree(keeps)
        self.assertEqual(tree_of(keeps + [keep(9, "b", False)], 2).kept_names(), ["a", "c", "d"])
        self.assertEqual(tree_of(keeps[1:] + [keep(3, "a", True, 4)], 2).kept_names(), ["b", "c", "d"])

    def test_84_kept_trees_have_the_next_id_of_the_tree(self):
        tree = tree_of(file_at(3, 2, "a") + [keep(4, "old")] + file_at(5, 3, "b"), 50)
        self.assertEqual((tree.next_id, tree.kept("old").next_id, tree.kept("old").kept_names()), (50, 50, []))
        self.assertEqual(group(tree, ("file", ("n",)), 9)[0].node, 50)
        tree.do(("write", ("a",), 0, [1]))
        self.assertEqual(tree.kept("old").read(("a",)), ())

    def test_84_wrong_records(self):
        for wrong in [value for value in ANY_VALUES if value not in ([], ())] + [
                [Head(1, 1, False)], [Seal(1, 0)], [node(1, 2), None],
                [name(1, 1, "a", 2), Head(2, 1, True), node(1, 2)],
                node(1, 2), [[node(1, 2)]], [Node], {"a": node(1, 2)}]:
            self.assert_invalid(InvalidRecords, wrong, tree_of, wrong, 0)
            self.assert_invalid(InvalidRecords, wrong, tree_of, wrong, 100)

    def test_84_wrong_next_ids(self):
        cases = {
            2: [], 4: file_at(1, 3, "a"), 8: file_at(1, 2, "a") + [name(2, 7, "b", 0)], 65536: file_at(1, 65535, "a"),
            10: file_at(1, 2, "a") + [node(1, 9, 0)], 12: [chunk(1, 11, 0, ZEROS)], 14: [name(1, 13, "q", 0)],
            6: file_at(1, 2, "a") + [node(1, 5, until=7)], 16: [name(1, 1, "a", 15, 2)],
        }
        cases[3] = file_at(1, 2, "a") + [keep(9, "old")]
        for least, records in cases.items():
            for next_id in (least, 65536):
                self.assertEqual(tree_of(records, next_id).next_id, next_id)
            for wrong in NO_INTS + [least - 1, 0, 1, -1, 65537, 2 ** 70]:
                self.assert_invalid(InvalidNumber, wrong, tree_of, records, wrong)

    def test_84_the_records_stay(self):
        records = file_at(1, 2, "a") + [keep(2, "old")]
        before = list(records)
        tree = tree_of(records, 3)
        records.clear()
        self.assertEqual((tree.listing(()), tree.kept("old").listing(())), (["a"], ["a"]))
        self.assertEqual(before, file_at(1, 2, "a") + [keep(2, "old")])

    def test_86_how_many_are_needed(self):
        for seed in range(60):
            tree, told = history(dice(860 + seed))
            self.assertLessEqual(len(needed(told)), living(tree))
            if not tree.kept_names():
                self.assertEqual(len(needed(told)), living(tree))
            self.assertEqual(needed(told), plain_needed(told))

    def test_86_lists_of_groups_are_in_order_and_tell_the_same_in_any_order(self):
        for seed in range(40):
            source = dice(8600 + seed)
            tree, told = history(source)
            self.assertTrue(is_in_order(told))
            for _ in range(3):
                source.shuffle(told)
                self.assertEqual(tree_of(told, tree.next_id), tree)

    def test_86_records_that_go(self):
        for seed in range(60):
            source = dice(86000 + seed)
            tree, told = history(source)
            for _ in range(4):
                gone = [place for place in range(len(told)) if source.random() < 0.3]
                told = thinned(told, gone)
                self.assertTrue(is_in_order(told))
                source.shuffle(told)
                again = tree_of(told, tree.next_id)
                self.assertEqual(again, tree)
                self.assertEqual(keys(again), keys(tree))
                self.assertLess(max(ids_of(told)), tree.next_id)
            number = max([1] + [record.deed for record in told] + [record.until for record in told])
            for _ in range(8):
                number += 1
                deed = some_deed(source, tree)
                told += group(tree, deed, number)
                tree.do(deed)
                self.assertEqual(tree_of(told, tree.next_id), tree)
